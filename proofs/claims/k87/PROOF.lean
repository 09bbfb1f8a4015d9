import PyProof.Rows.All
import Wide.All
import OpenK.AllK
import Wide.FinOn
import HandS.Base
import HandS.Call
import HandS.List
import HandS.Comp
import HandS.Ends
import HandS.Dict
import HandS.Iter
import HandS.Text
import HandS.Words
import HandS.WordsList
import HandS.Wide
import HandS.IsInst
import HandS.More
import HandS.Star
import HandS.Flow
import HandS.NoneIn
import HandS.StrMore
import HandS.ExcValue
import HandS.WideBits
import HandS.RevTup
import HandS.Rev
import HandS.MapObj
import HandS.FStr
import PySem.Challenge.RW_graincourse_k87_numbers_of_thirty_digits
set_option Elab.async false
set_option maxRecDepth 100000
set_option exponentiation.threshold 100000
set_option linter.all false

namespace Toy
open PySem L2
def top (i : Nat) : Stmt := PySem.Challenge.pw_graincourse_k87_numbers_of_thirty_digits.main.body.getD i (.Pass ⟨0, 0, 0, 0⟩)
abbrev s_GrainError___init__ : Stmt := inClass (top 1) 0
abbrev s_InvalidFraction___init__ : Stmt := inClass (top 2) 0
abbrev s_common_divisor : Stmt := top 5
abbrev s_reduced : Stmt := top 6
abbrev s_is_number : Stmt := top 7
abbrev s_is_fraction : Stmt := top 8
abbrev s_plus : Stmt := top 9
abbrev s_times : Stmt := top 10
abbrev s_total : Stmt := top 11
abbrev s_negative : Stmt := top 12
abbrev s_order : Stmt := top 13
abbrev s_number_text : Stmt := top 14
abbrev s_ratio_text : Stmt := top 15
abbrev s_is_digits : Stmt := top 16
abbrev s_parse_ratio : Stmt := top 17
abbrev s_bag : Stmt := top 19
abbrev s_pull : Stmt := top 20
abbrev s_of : Stmt := top 21
abbrev s_same : Stmt := top 22
abbrev s_gcd : Stmt := top 23
abbrev s_low : Stmt := top 24
abbrev s_add : Stmt := top 25
abbrev s_sum : Stmt := top 26
abbrev s_mul : Stmt := top 27
abbrev s_neg : Stmt := top 28
abbrev s_less : Stmt := top 29
abbrev s_law_ratio_text : Stmt := top 30
abbrev s_long_number : Stmt := top 31
abbrev s_law : Stmt := top 32
theorem sc_GrainError___init__ : FnScope ["self", "word", "message"] ["self", "word", "message"] (defScope s_GrainError___init__) := ⟨rfl, rfl, rfl, by decide +kernel, rfl, by decide +kernel, by decide +kernel⟩
theorem sc_InvalidFraction___init__ : FnScope ["self"] ["self"] (defScope s_InvalidFraction___init__) := ⟨rfl, rfl, rfl, by decide +kernel, rfl, by decide +kernel, by decide +kernel⟩
theorem sc_common_divisor : FnScope ["one", "other"] ["one", "other"] (defScope s_common_divisor) := ⟨rfl, rfl, rfl, by decide +kernel, rfl, by decide +kernel, by decide +kernel⟩
theorem sc_reduced : FnScope ["numerator", "denominator", "shared"] ["numerator", "denominator"] (defScope s_reduced) := ⟨rfl, rfl, rfl, by decide +kernel, rfl, by decide +kernel, by decide +kernel⟩
theorem sc_is_number : FnScope ["value"] ["value"] (defScope s_is_number) := ⟨rfl, rfl, rfl, by decide +kernel, rfl, by decide +kernel, by decide +kernel⟩
theorem sc_is_fraction : FnScope ["value", "numerator", "denominator", "item"] ["value"] (defScope s_is_fraction) := ⟨rfl, rfl, rfl, by decide +kernel, rfl, by decide +kernel, by decide +kernel⟩
theorem sc_plus : FnScope ["parts"] ["parts"] (defScope s_plus) := ⟨rfl, rfl, rfl, by decide +kernel, rfl, by decide +kernel, by decide +kernel⟩
theorem sc_times : FnScope ["parts", "numerator", "denominator", "above", "below"] ["parts"] (defScope s_times) := ⟨rfl, rfl, rfl, by decide +kernel, rfl, by decide +kernel, by decide +kernel⟩
theorem sc_total : FnScope ["parts", "numerator", "denominator", "above", "below", "shared"] ["parts"] (defScope s_total) := ⟨rfl, rfl, rfl, by decide +kernel, rfl, by decide +kernel, by decide +kernel⟩
theorem sc_negative : FnScope ["part", "numerator", "denominator"] ["part"] (defScope s_negative) := ⟨rfl, rfl, rfl, by decide +kernel, rfl, by decide +kernel, by decide +kernel⟩
theorem sc_order : FnScope ["one", "other", "left", "right"] ["one", "other"] (defScope s_order) := ⟨rfl, rfl, rfl, by decide +kernel, rfl, by decide +kernel, by decide +kernel⟩
theorem sc_number_text : FnScope ["number", "group", "rest", "texts", "low", "sign"] ["number"] (defScope s_number_text) := ⟨rfl, rfl, rfl, by decide +kernel, rfl, by decide +kernel, by decide +kernel⟩
theorem sc_ratio_text : FnScope ["part", "numerator", "denominator"] ["part"] (defScope s_ratio_text) := ⟨rfl, rfl, rfl, by decide +kernel, rfl, by decide +kernel, by decide +kernel⟩
theorem sc_is_digits : FnScope ["text"] ["text"] (defScope s_is_digits) := ⟨rfl, rfl, rfl, by decide +kernel, rfl, by decide +kernel, by decide +kernel⟩
theorem sc_parse_ratio : FnScope ["text", "numerator", "slash", "denominator", "part"] ["text"] (defScope s_parse_ratio) := ⟨rfl, rfl, rfl, by decide +kernel, rfl, by decide +kernel, by decide +kernel⟩
theorem sc_bag : FnScope ["_law_script", "_law_salt", "_law_cell"] ["_law_script"] (defScope s_bag) := ⟨rfl, rfl, rfl, by decide +kernel, rfl, by decide +kernel, by decide +kernel⟩
theorem sc_pull : FnScope ["_law_bag_here", "_law_many", "_law_cell", "_law_digit", "_law_seed"] ["_law_bag_here", "_law_many"] (defScope s_pull) := ⟨rfl, rfl, rfl, by decide +kernel, rfl, by decide +kernel, by decide +kernel⟩
theorem sc_of : FnScope ["_law_bag_here", "_law_some"] ["_law_bag_here", "_law_some"] (defScope s_of) := ⟨rfl, rfl, rfl, by decide +kernel, rfl, by decide +kernel, by decide +kernel⟩
theorem sc_same : FnScope ["_law_found", "_law_due", "_law_k"] ["_law_found", "_law_due"] (defScope s_same) := ⟨rfl, rfl, rfl, by decide +kernel, rfl, by decide +kernel, by decide +kernel⟩
theorem sc_gcd : FnScope ["_law_a", "_law_b"] ["_law_a", "_law_b"] (defScope s_gcd) := ⟨rfl, rfl, rfl, by decide +kernel, rfl, by decide +kernel, by decide +kernel⟩
theorem sc_low : FnScope ["_law_a", "_law_b", "_law_by"] ["_law_a", "_law_b"] (defScope s_low) := ⟨rfl, rfl, rfl, by decide +kernel, rfl, by decide +kernel, by decide +kernel⟩
theorem sc_add : FnScope ["_law_p", "_law_q"] ["_law_p", "_law_q"] (defScope s_add) := ⟨rfl, rfl, rfl, by decide +kernel, rfl, by decide +kernel, by decide +kernel⟩
theorem sc_sum : FnScope ["_law_parts", "_law_found", "_law_part"] ["_law_parts"] (defScope s_sum) := ⟨rfl, rfl, rfl, by decide +kernel, rfl, by decide +kernel, by decide +kernel⟩
theorem sc_mul : FnScope ["_law_p", "_law_q"] ["_law_p", "_law_q"] (defScope s_mul) := ⟨rfl, rfl, rfl, by decide +kernel, rfl, by decide +kernel, by decide +kernel⟩
theorem sc_neg : FnScope ["_law_p"] ["_law_p"] (defScope s_neg) := ⟨rfl, rfl, rfl, by decide +kernel, rfl, by decide +kernel, by decide +kernel⟩
theorem sc_less : FnScope ["_law_p", "_law_q"] ["_law_p", "_law_q"] (defScope s_less) := ⟨rfl, rfl, rfl, by decide +kernel, rfl, by decide +kernel, by decide +kernel⟩
theorem sc_law_ratio_text : FnScope ["_law_part"] ["_law_part"] (defScope s_law_ratio_text) := ⟨rfl, rfl, rfl, by decide +kernel, rfl, by decide +kernel, by decide +kernel⟩
theorem sc_long_number : FnScope ["_law_bag_here", "_law_found", "_law_step"] ["_law_bag_here"] (defScope s_long_number) := ⟨rfl, rfl, rfl, by decide +kernel, rfl, by decide +kernel, by decide +kernel⟩
theorem sc_law : FnScope ["_law_script", "_law_bag_here", "_law_turn", "_law_a", "_law_b", "_law_c", "_law_down", "_law_pairs", "_law_parts", "_law_told", "_law_one", "_law_two", "_law_three", "_law_sign", "_law_due", "_law_text", "_law_k", "_law_pair"] ["_law_script"] (defScope s_law) := ⟨rfl, rfl, rfl, by decide +kernel, rfl, by decide +kernel, by decide +kernel⟩
structure DfS (K : PySem.W.Frag) (mg : Str → Option Value) (x : Str) (st : Stmt) (pv : Str) (f : Addr) (fd : FuncData) : Prop where
  F : Fun K x x st f fd
  m : mg x = some (.ref f)
  hb : ∀ rest : List Value, bindArgs fd ⟨rest, []⟩ = (newTuple rest >>= fun t => pure [(pv, t)])
structure Df (K : PySem.W.Frag) (mg : Str → Option Value) (x : Str) (st : Stmt) (ps : List Str) (f : Addr) (fd : FuncData) : Prop where
  F : Fun K x x st f fd
  m : mg x = some (.ref f)
  b : Binds K fd ps []
structure Ad where
  f_common_divisor : Addr
  fd_common_divisor : FuncData
  f_reduced : Addr
  fd_reduced : FuncData
  f_is_number : Addr
  fd_is_number : FuncData
  f_is_fraction : Addr
  fd_is_fraction : FuncData
  f_plus : Addr
  fd_plus : FuncData
  f_times : Addr
  fd_times : FuncData
  f_total : Addr
  fd_total : FuncData
  f_negative : Addr
  fd_negative : FuncData
  f_order : Addr
  fd_order : FuncData
  f_number_text : Addr
  fd_number_text : FuncData
  f_ratio_text : Addr
  fd_ratio_text : FuncData
  f_is_digits : Addr
  fd_is_digits : FuncData
  f_parse_ratio : Addr
  fd_parse_ratio : FuncData
  f_bag : Addr
  fd_bag : FuncData
  f_pull : Addr
  fd_pull : FuncData
  f_of : Addr
  fd_of : FuncData
  f_same : Addr
  fd_same : FuncData
  f_gcd : Addr
  fd_gcd : FuncData
  f_low : Addr
  fd_low : FuncData
  f_add : Addr
  fd_add : FuncData
  f_sum : Addr
  fd_sum : FuncData
  f_mul : Addr
  fd_mul : FuncData
  f_neg : Addr
  fd_neg : FuncData
  f_less : Addr
  fd_less : FuncData
  f_law_ratio_text : Addr
  fd_law_ratio_text : FuncData
  f_long_number : Addr
  fd_long_number : FuncData
  f_law : Addr
  fd_law : FuncData
structure Txt (K : PySem.W.Frag) (mg : Str → Option Value) (A : Ad) : Prop where
  d_common_divisor : Df K mg "common_divisor" s_common_divisor ["one", "other"] A.f_common_divisor A.fd_common_divisor
  d_reduced : Df K mg "reduced" s_reduced ["numerator", "denominator"] A.f_reduced A.fd_reduced
  d_is_number : Df K mg "is_number" s_is_number ["value"] A.f_is_number A.fd_is_number
  d_is_fraction : Df K mg "is_fraction" s_is_fraction ["value"] A.f_is_fraction A.fd_is_fraction
  d_plus : DfS K mg "plus" s_plus "parts" A.f_plus A.fd_plus
  d_times : DfS K mg "times" s_times "parts" A.f_times A.fd_times
  d_total : Df K mg "total" s_total ["parts"] A.f_total A.fd_total
  d_negative : Df K mg "negative" s_negative ["part"] A.f_negative A.fd_negative
  d_order : Df K mg "order" s_order ["one", "other"] A.f_order A.fd_order
  d_number_text : Df K mg "number_text" s_number_text ["number"] A.f_number_text A.fd_number_text
  d_ratio_text : Df K mg "ratio_text" s_ratio_text ["part"] A.f_ratio_text A.fd_ratio_text
  d_is_digits : Df K mg "is_digits" s_is_digits ["text"] A.f_is_digits A.fd_is_digits
  d_parse_ratio : Df K mg "parse_ratio" s_parse_ratio ["text"] A.f_parse_ratio A.fd_parse_ratio
  d_bag : Df K mg "_law_bag" s_bag ["_law_script"] A.f_bag A.fd_bag
  d_pull : Df K mg "_law_pull" s_pull ["_law_bag_here", "_law_many"] A.f_pull A.fd_pull
  d_of : Df K mg "_law_of" s_of ["_law_bag_here", "_law_some"] A.f_of A.fd_of
  d_same : Df K mg "_law_same" s_same ["_law_found", "_law_due"] A.f_same A.fd_same
  d_gcd : Df K mg "_law_gcd" s_gcd ["_law_a", "_law_b"] A.f_gcd A.fd_gcd
  d_low : Df K mg "_law_low" s_low ["_law_a", "_law_b"] A.f_low A.fd_low
  d_add : Df K mg "_law_add" s_add ["_law_p", "_law_q"] A.f_add A.fd_add
  d_sum : Df K mg "_law_sum" s_sum ["_law_parts"] A.f_sum A.fd_sum
  d_mul : Df K mg "_law_mul" s_mul ["_law_p", "_law_q"] A.f_mul A.fd_mul
  d_neg : Df K mg "_law_neg" s_neg ["_law_p"] A.f_neg A.fd_neg
  d_less : Df K mg "_law_less" s_less ["_law_p", "_law_q"] A.f_less A.fd_less
  d_law_ratio_text : Df K mg "_law_ratio_text" s_law_ratio_text ["_law_part"] A.f_law_ratio_text A.fd_law_ratio_text
  d_long_number : Df K mg "_law_long_number" s_long_number ["_law_bag_here"] A.f_long_number A.fd_long_number
  d_law : Df K mg "law" s_law ["_law_script"] A.f_law A.fd_law
  abs : mg "abs" = none
  all : mg "all" = none
  bool : mg "bool" = none
  divmod : mg "divmod" = none
  int : mg "int" = none
  isinstance : mg "isinstance" = none
  len : mg "len" = none
  list : mg "list" = none
  max : mg "max" = none
  min : mg "min" = none
  range : mg "range" = none
  reversed : mg "reversed" = none
  str : mg "str" = none
  tuple : mg "tuple" = none
  MOST_DIGITS : ∃ t, mg "MOST_DIGITS" = some (.int 30 t)
/-! ## Fractions: the mathematics, over Lean's own Rat -/
namespace RM
theorem num_pos {a b : Int} (h : 0 < b) : (Rat.divInt a b).num = a / ((Int.gcd a b : Nat) : Int) := by
  rw [Rat.num_divInt, Int.sign_eq_one_of_pos h, Int.one_mul, Int.gcd_comm]
theorem den_any {a b : Int} (h : b ≠ 0) : (((Rat.divInt a b).den : Nat) : Int) = ((b.natAbs : Nat) : Int) / ((Int.gcd a b : Nat) : Int) := by
  rw [Rat.den_divInt, if_neg h, Int.gcd_comm, Int.natCast_ediv]
theorem den_pos {a b : Int} (h : 0 < b) : (((Rat.divInt a b).den : Nat) : Int) = b / ((Int.gcd a b : Nat) : Int) := by
  rw [den_any (by omega), Int.natAbs_of_nonneg (by omega)]
theorem gcd_ne {a b : Int} (h : b ≠ 0) : ((Int.gcd a b : Nat) : Int) ≠ 0 := by
  have : Int.gcd a b ≠ 0 := by
    intro e
    rw [Int.gcd_eq_zero_iff] at e
    exact h e.2
  omega
theorem gcd_posi {a b : Int} (h : b ≠ 0) : 0 < ((Int.gcd a b : Nat) : Int) := by
  have := gcd_ne (a := a) h
  omega
theorem fdiv_neg_dvd {a g : Int} (hg : g ≠ 0) (h : g ∣ a) : a.fdiv (-g) = -(a / g) := by
  rw [Int.fdiv_neg hg, if_pos h, Int.fdiv_eq_ediv_of_dvd h]
theorem num_neg {a b : Int} (h : b < 0) : (Rat.divInt a b).num = a.fdiv (-((Int.gcd a b : Nat) : Int)) := by
  rw [fdiv_neg_dvd (gcd_ne (by omega)) (Int.gcd_dvd_left ..), Rat.num_divInt, Int.sign_eq_neg_one_of_neg h, Int.gcd_comm]
  rw [Int.neg_mul, Int.one_mul, Int.neg_ediv_of_dvd (Int.gcd_dvd_left ..)]
theorem den_neg {a b : Int} (h : b < 0) : (((Rat.divInt a b).den : Nat) : Int) = b.fdiv (-((Int.gcd a b : Nat) : Int)) := by
  rw [fdiv_neg_dvd (gcd_ne (by omega)) (Int.gcd_dvd_right ..), den_any (by omega), ← Int.neg_ediv_of_dvd (Int.gcd_dvd_right ..)]
  congr 1
  omega
theorem gcd_step (a b : Int) : Int.gcd b (a % b) = Int.gcd a b := by
  have h := Int.gcd_add_mul_left_right b (a % b) (a / b)
  rw [Int.emod_add_mul_ediv] at h
  rw [← h, Int.gcd_comm]
theorem add_eq (x y : Rat) : Rat.divInt (x.num * y.den + y.num * x.den) (x.den * y.den) = x + y := by
  have h := Rat.divInt_add_divInt x.num y.num (d₁ := x.den) (d₂ := y.den) (by have := x.den_nz; omega) (by have := y.den_nz; omega)
  rw [Rat.num_divInt_den, Rat.num_divInt_den] at h
  exact h.symm
theorem mul_eq (x y : Rat) : Rat.divInt (x.num * y.num) (x.den * y.den) = x * y := by
  have h := Rat.divInt_mul_divInt x.num y.num (d₁ := x.den) (d₂ := y.den)
  rw [Rat.num_divInt_den, Rat.num_divInt_den] at h
  exact h.symm
theorem den_p (x : Rat) : (0 : Int) < ((x.den : Nat) : Int) := by
  have := x.den_nz
  omega
/-- numbers below 2 ^ k -/
def Bd (k : Nat) (x : Rat) : Prop := x.num.natAbs < 2 ^ k ∧ x.den < 2 ^ k
theorem pow_le {j k : Nat} (h : j ≤ k) : 2 ^ j ≤ 2 ^ k := Nat.pow_le_pow_right (by decide) h
theorem Bd.mono {j k : Nat} {x : Rat} (b : Bd j x) (h : j ≤ k) : Bd k x := ⟨Nat.lt_of_lt_of_le b.1 (pow_le h), Nat.lt_of_lt_of_le b.2 (pow_le h)⟩
theorem div_num_le {a b : Int} (h : b ≠ 0) : (Rat.divInt a b).num.natAbs ≤ a.natAbs := by
  by_cases h1 : 0 < b
  · rw [num_pos h1]
    exact Int.natAbs_ediv_le_natAbs ..
  · rw [num_neg (by omega), fdiv_neg_dvd (gcd_ne h) (Int.gcd_dvd_left ..), Int.natAbs_neg]
    exact Int.natAbs_ediv_le_natAbs ..
theorem div_den_le {a b : Int} (h : b ≠ 0) : (Rat.divInt a b).den ≤ b.natAbs := by
  rw [Rat.den_divInt, if_neg h]
  exact Nat.div_le_self _ _
theorem Bd.div {a b : Int} {k : Nat} (h : b ≠ 0) (ha : a.natAbs < 2 ^ k) (hb : b.natAbs < 2 ^ k) : Bd k (Rat.divInt a b) :=
  ⟨Nat.lt_of_le_of_lt (div_num_le h) ha, Nat.lt_of_le_of_lt (div_den_le h) hb⟩
theorem abs_mul_lt {a b : Int} {j k : Nat} (ha : a.natAbs < 2 ^ j) (hb : b.natAbs < 2 ^ k) : (a * b).natAbs < 2 ^ (j + k) := by
  rw [Int.natAbs_mul, Nat.pow_add]
  exact Nat.mul_lt_mul'' ha hb
theorem abs_add_lt {a b : Int} {k : Nat} (ha : a.natAbs < 2 ^ k) (hb : b.natAbs < 2 ^ k) : (a + b).natAbs < 2 ^ (k + 1) := by
  rw [Nat.pow_succ]
  omega
theorem nat_abs (n : Nat) : ((n : Nat) : Int).natAbs = n := Int.natAbs_natCast n
theorem Bd.den {k : Nat} {x : Rat} (b : Bd k x) : ((x.den : Nat) : Int).natAbs < 2 ^ k := by
  rw [nat_abs]
  exact b.2
theorem cross_lt {j k : Nat} {x y : Rat} (bx : Bd j x) (bY : Bd k y) : (x.num * y.den + y.num * x.den).natAbs < 2 ^ (j + k + 1) :=
  abs_add_lt (abs_mul_lt bx.1 bY.den) (by rw [Nat.add_comm j k]; exact abs_mul_lt bY.1 bx.den)
theorem dd_ne (x y : Rat) : ((x.den : Nat) : Int) * ((y.den : Nat) : Int) ≠ 0 := Int.ne_of_gt (Int.mul_pos (den_p x) (den_p y))
theorem dd_pos (x y : Rat) : 0 < ((x.den : Nat) : Int) * ((y.den : Nat) : Int) := Int.mul_pos (den_p x) (den_p y)
theorem Bd.add {j k : Nat} {x y : Rat} (bx : Bd j x) (bY : Bd k y) : Bd (j + k + 1) (x + y) := by
  rw [← add_eq]
  exact Bd.div (dd_ne x y) (cross_lt bx bY) (Nat.lt_of_lt_of_le (abs_mul_lt bx.den bY.den) (pow_le (by omega)))
theorem Bd.mul {j k : Nat} {x y : Rat} (bx : Bd j x) (bY : Bd k y) : Bd (j + k) (x * y) := by
  rw [← mul_eq]
  exact Bd.div (dd_ne x y) (abs_mul_lt bx.1 bY.1) (abs_mul_lt bx.den bY.den)
theorem Bd.neg {k : Nat} {x : Rat} (b : Bd k x) : Bd k (-x) := by
  refine ⟨?_, ?_⟩
  · rw [Rat.neg_num, Int.natAbs_neg]
    exact b.1
  · rw [Rat.neg_den]
    exact b.2
theorem Bd.zero {k : Nat} (h : 1 ≤ k) : Bd k 0 := Bd.mono (j := 1) ⟨by decide, by decide⟩ h
theorem Bd.one {k : Nat} (h : 1 ≤ k) : Bd k 1 := Bd.mono (j := 1) ⟨by decide, by decide⟩ h
/-- sums and products from the left -/
def sumR (qs : List Rat) : Rat := qs.foldl (· + ·) 0
def mulR (qs : List Rat) : Rat := qs.foldl (· * ·) 1
theorem take_succ {α : Type} {xs : List α} {i : Nat} {x : α} (h : xs[i]? = some x) : xs.take (i + 1) = xs.take i ++ [x] := by
  rw [List.take_add_one, h]
  rfl
theorem sum_snoc (qs : List Rat) (x : Rat) : sumR (qs ++ [x]) = sumR qs + x := by
  unfold sumR
  rw [List.foldl_append]
  rfl
theorem mul_snoc (qs : List Rat) (x : Rat) : mulR (qs ++ [x]) = mulR qs * x := by
  unfold mulR
  rw [List.foldl_append]
  rfl
/-- one step of a sum whose denominator is not reduced, g a common divisor of both denominators -/
theorem part_step {n d a b g : Int} (hd : d ≠ 0) (hb : b ≠ 0) (h1 : g ∣ d) (h2 : g ∣ b) : Rat.divInt (n * (b / g) + a * (d / g)) (d * (b / g)) = Rat.divInt n d + Rat.divInt a b := by
  obtain ⟨u, rfl⟩ := h1
  obtain ⟨v, rfl⟩ := h2
  have hg : g ≠ 0 := fun z => hd (by rw [z, Int.zero_mul])
  rw [Int.mul_ediv_cancel_left _ hg, Int.mul_ediv_cancel_left _ hg, Rat.divInt_add_divInt _ _ hd hb, ← Rat.divInt_mul_left hg]
  congr 1
  · rw [Int.mul_add]
    congr 1 <;> ac_rfl
  · ac_rfl
end RM

/-! ## The law's own helpers: the bag, its draws, the comparison -/
theorem _root_.L2.Same.new {H : Hp} {p : Addr} (h : H p = none) (o : HO) : Same H (upd H p o) := fun b u q => by rw [upd_ne (ne_of_none q h)]; exact q
theorem _root_.L2.Same.set {H H' : Hp} {p : Addr} (e : Same H H') (h : H p = none) (o : HO) : Same H (upd H' p o) := fun b u q => by rw [upd_ne (ne_of_none q h)]; exact e b u q
theorem sl_small {n : Nat} (h : n ≤ 100000) : n ≤ sizeLine := Nat.le_trans h (by decide)
theorem sl_lt {n : Nat} (h : n < 100000) : n < sizeLine := Nat.lt_of_lt_of_le h (by decide)
theorem slr {n : Nat} (h : Nat.ble n 100000 = true) : n ≤ sizeLine := sl_small (Nat.le_of_ble_eq_true h)
theorem dec_t {p : Prop} [Decidable p] (h : p) : decide p = true := decide_eq_true h
def rLenK (K : PySem.W.Frag) : List V → Hp → VK → Prop := fun xs H Q => ∃ p ys, xs = [.ref p] ∧ (SqL K H p ys ∨ SqT K H p ys) ∧ Q (.int ys.length) H
def rListK (K : PySem.W.Frag) : List V → Hp → VK → Prop := fun xs H Q => ∃ p ys, xs = [.ref p] ∧ (SqL K H p ys ∨ SqT K H p ys) ∧ ∀ l, H l = none → Q (.ref l) (upd H l (.lst ys))
def rTupK (K : PySem.W.Frag) : List V → Hp → VK → Prop := fun xs H Q => ∃ p ys, xs = [.ref p] ∧ ((SqL K H p ys ∧ ∀ l, H l = none → Q (.ref l) (upd H l (.tup ys))) ∨ (SqT K H p ys ∧ Q (.ref p) H))
/-- what holds between two statements -/
theorem seq_key {t u : TS} {D : Ends} {σ : St} {H : Hp} (P : St → Hp → Prop) (h2 : ∀ σ H, P σ H → u D σ H) (h1 : (∀ σ H, P σ H → u D σ H) → t { D with nx := u D } σ H) : tSeq t u D σ H := h1 h2
/-- all but the object at b is as it was -/
def Apart (b : Addr) (H H' : Hp) : Prop := ∀ a o, a ≠ b → H a = some o → H' a = some o
theorem Apart.refl (b : Addr) (H : Hp) : Apart b H H := fun _ _ _ h => h
theorem Apart.trans {b : Addr} {H H1 H2 : Hp} (x : Apart b H H1) (y : Apart b H1 H2) : Apart b H H2 := fun a o n e => y a o n (x a o n e)
theorem _root_.L2.Same.apart {b : Addr} {H H' : Hp} (x : Same H H') : Apart b H H' := fun a o _ e => x a o e
theorem Apart.set {b : Addr} {H : Hp} (o : HO) : Apart b H (upd H b o) := fun a u n e => by rw [upd_ne n]; exact e
/-- the bag: its list of numbers l, the numbers ns, the place i, the rest c, the seed s, the count t -/
def bagL (l : Addr) (i c s t : Int) : List V := [.ref l, .int i, .int c, .int s, .int t]
structure Bag (H : Hp) (b l : Addr) : Prop where
  ex : ∃ (ns : List Int) (i c s t : Int), H b = some (.lst (bagL l i c s t)) ∧ H l = some (.lst (ns.map V.int)) ∧ 0 ≤ i ∧ 0 ≤ c ∧ 0 ≤ s ∧ s < 2147483647
theorem bag_ne {l : Addr} {i c s t : Int} {ns : List Int} : HO.lst (ns.map V.int) ≠ HO.lst (bagL l i c s t) := by
  intro e
  injection e with e
  cases ns with
  | nil => cases e
  | cons _ _ => cases e
theorem Bag.same {H H' : Hp} {b l : Addr} (x : Bag H b l) (e : Same H H') : Bag H' b l := by
  obtain ⟨ns, i, c, s, t, h1, h2, h⟩ := x.ex
  exact ⟨ns, i, c, s, t, e _ _ h1, e _ _ h2, h⟩
theorem Bag.there {H : Hp} {b l : Addr} (x : Bag H b l) : ∃ xs, H b = some (.lst xs) := by
  obtain ⟨ns, i, c, s, t, h1, _⟩ := x.ex
  exact ⟨_, h1⟩
theorem Bag.inner {H : Hp} {b l : Addr} (x : Bag H b l) : ∃ xs, H l = some (.lst xs) := by
  obtain ⟨ns, i, c, s, t, h1, h2, _⟩ := x.ex
  exact ⟨_, h2⟩
theorem Bag.new {H : Hp} {b l p : Addr} (x : Bag H b l) (h : H p = none) (o : HO) : Bag (upd H p o) b l := x.same (Same.new h o)
theorem Bag.ne {H : Hp} {b l p : Addr} (x : Bag H b l) (h : H p = none) : p ≠ b := by
  obtain ⟨_, h1⟩ := x.there
  exact (ne_of_none h1 h).symm
theorem Bag.ne2 {H : Hp} {b l p : Addr} (x : Bag H b l) (h : H p = none) : p ≠ l := by
  obtain ⟨_, h1⟩ := x.inner
  exact (ne_of_none h1 h).symm
theorem Bag.nt {H : Hp} {b l p : Addr} {xs : List V} (x : Bag H b l) (h : H p = some (.tup xs)) : p ≠ b := by
  obtain ⟨_, h1⟩ := x.there
  exact ne_of h h1 (fun z => nomatch z)
theorem Bag.upd {H : Hp} {b l p : Addr} {o : HO} (x : Bag H b l) (h1 : p ≠ b) (h2 : p ≠ l) : Bag (upd H p o) b l := by
  obtain ⟨ns, i, c, s, t, e1, e2, h⟩ := x.ex
  exact ⟨ns, i, c, s, t, by rw [upd_ne (Ne.symm h1)]; exact e1, by rw [upd_ne (Ne.symm h2)]; exact e2, h⟩
theorem Bag.put {H : Hp} {b l : Addr} {ns : List Int} {i c s t : Int} {i' c' s' t' : Int} (h1 : H b = some (.lst (bagL l i c s t))) (h2 : H l = some (.lst (ns.map V.int))) (hi : 0 ≤ i') (hc : 0 ≤ c') (hs : 0 ≤ s') (hs2 : s' < 2147483647) :
    Bag (L2.upd H b (.lst (bagL l i' c' s' t'))) b l := ⟨ns, i', c', s', t', upd_same, by rw [upd_ne (ne_of h2 h1 bag_ne)]; exact h2, hi, hc, hs, hs2⟩

def spBag (K : PySem.W.Frag) : Sp := fun vs H Q _ => ∃ (a : Addr) (ns : List Int), vs = [.ref a] ∧ SqL K H a (ns.map V.int) ∧ ns.length ≤ 63 ∧ ∀ (b l : Addr) (H' : Hp), Same H H' → H b = none → H l = none → Bag H' b l → Q (.ref b) H'
def spPull : Sp := fun vs H Q _ => ∃ (b l : Addr) (m : Int), vs = [.ref b, .int m] ∧ Bag H b l ∧ 0 < m ∧ m.natAbs < 2 ^ 200 ∧ ∀ (r : Int) (H' : Hp), 0 ≤ r → r < m → Apart b H H' → Bag H' b l → Q (.int r) H'
def spOf (K : PySem.W.Frag) : Sp := fun vs H Q _ => ∃ (b l a : Addr) (xs : List V), vs = [.ref b, .ref a] ∧ Bag H b l ∧ SqL K H a xs ∧ a ≠ b ∧ 0 < xs.length ∧ xs.length ≤ 1000 ∧ ∀ (i : Nat) (v : V) (H' : Hp), xs[i]? = some v → Apart b H H' → Bag H' b l → Q v H'

section
variable {P : Program} {w : World} {K : PySem.W.Frag} {mg : Str → Option Value} {base : Heap} {A : Ad}
theorem cut_ints (ns : List Int) (lo hi : Option Int) : ∃ ms : List Int, cutV (ns.map V.int) lo hi = ms.map V.int := by
  unfold cutV
  rw [← List.map_drop, ← List.map_take]
  exact ⟨_, rfl⟩
theorem int_at {ns : List Int} {i : Nat} {x : V} (h : (ns.map V.int)[i]? = some x) : ∃ u, x = V.int u := by
  rw [List.getElem?_map] at h
  cases e : ns[i]? with
  | none => rw [e] at h; cases h
  | some u => rw [e] at h; exact ⟨u, (Option.some.inj h).symm⟩
theorem ok_bag (T : Txt K mg A) : FnOk P w K mg base CX0 1 A.f_bag A.fd_bag ["_law_script"] (spBag K) := by
  refine T.d_bag.F.ok sc_bag (fun vs H Q E h => ?_) (fun cdv ar outer s H vs Q E hr h => ?_)
  · obtain ⟨a, ns, rfl, _⟩ := h
    rfl
  obtain ⟨a, ns, rfl, hS, h63, q⟩ := h
  refine ⟨_, (pss_cons (ps_set (i := 1) sc_bag.nd rfl (Or.inl rfl) pe_int)
    (pss_cons (ps_for PassesOwn.never rfl (pi_list (pe_slice (r := rSlL K) sl_list (pv 0) po_none (po_some pe_int))) (pg_name (i := 2) sc_bag.nd rfl (Or.inl rfl)) (pss_one (ps_set (i := 1) sc_bag.nd rfl (Or.inl rfl) (pe_op op_mod (pe_op op_add (pe_op op_add (pe_op op_mul (pv 1) pe_int) (pe_op op_mod (pv 2) pe_int)) pe_int) pe_int))))
    (pss_one (ps_ret (pe_lst (pa_cons (pe_callTy (r := rListK K) call_list_of (by rfl) T.list (by decide +kernel) (pa_cons (pe_slice (r := rSlL K) sl_list (pv 0) po_none (po_some pe_int)) pa_nil)) (pa_cons pe_int (pa_cons pe_int (pa_cons (pv 1) (pa_cons pe_int pa_nil)))))))))), ?_⟩
  refine ⟨_, rfl, 63, rfl, a, _, rfl, hS, fun p hp => ?_⟩
  refine ⟨p, rfl, ⟨_, SqL.of upd_same⟩, ?_⟩
  obtain ⟨ms, em⟩ := cut_ints ns none (some 63)
  have s1 : Same H (upd H p (.lst (cutV (ns.map V.int) none (some 63)))) := Same.new hp _
  refine for_list (xs := cutV (ns.map V.int) none (some 63)) (fun _ σ H' => ∃ (z : Int) (u : Option V), σ = [some (.ref a), some (.int z), u] ∧ 0 ≤ z ∧ z < 2147483647 ∧ H' = upd H p (.lst (cutV (ns.map V.int) none (some 63)))) ⟨3801, none, rfl, by decide, by decide, rfl⟩ ?_ ?_ ?_
  · rintro i σ H' _ ⟨z, u, _, _, _, rfl⟩
    exact SqL.of upd_same
  · rintro i x σ H' hi ⟨z, u, rfl, z0, z1, rfl⟩
    rw [em] at hi
    obtain ⟨y, rfl⟩ := int_at hi
    refine ⟨_, rfl, _, _, rfl, rfl, .inr ⟨by decide, by decide⟩, _, rfl, _, _, rfl, rfl, (by show (0 : Int) < 2147483549; decide), _, _, rfl, rfl, _, _, rfl, rfl, _, _, rfl, rfl, (by show (0 : Int) < 2147483647; decide), ?_⟩
    exact ⟨_, _, rfl, Int.emod_nonneg _ (by decide), Int.emod_lt_of_pos _ (by decide), rfl⟩
  · rintro σ H' ⟨z, u, rfl, z0, z1, rfl⟩
    refine ⟨_, rfl, 63, rfl, a, _, rfl, s1.seq hS, fun p2 hp2 => ?_⟩
    refine ⟨p2, _, rfl, .inl (SqL.of upd_same), fun l hl => ?_⟩
    refine ⟨_, rfl, (by show 5 ≤ sizeLine; decide), fun b hb => ?_⟩
    have s2 := s1.set (s1.free hp2) (.lst (cutV (ns.map V.int) none (some 63)))
    have s3 := s2.set (s2.free hl) (.lst (cutV (ns.map V.int) none (some 63)))
    have s4 := s3.set (s3.free hb) (.lst [.ref l, .int 0, .int 0, .int z, .int 0])
    refine q b l _ s4 (s3.free hb) (s2.free hl) ⟨ms, 0, 0, z, 0, upd_same, ?_, by decide, by decide, z0, z1⟩
    rw [upd_ne (ne_of_none upd_same hb), upd_same, em]
theorem ok_pull (T : Txt K mg A) : FnOk P w K mg base CX0 1 A.f_pull A.fd_pull ["_law_bag_here", "_law_many"] spPull := by
  refine T.d_pull.F.ok sc_pull (fun vs H Q E h => ?_) (fun cdv ar outer s H vs Q E hr h => ?_)
  · obtain ⟨b, l, m, rfl, _⟩ := h
    rfl
  obtain ⟨b, l, m, rfl, ⟨⟨ns, i, c, s, t, h1, h2, hi, hc, hs, hs2⟩⟩, hm, hm2, q⟩ := h
  refine ⟨_, (pss_cons (ps_if (PW.pt (pw_and (pt_cmpR op_eq (pe_ix (r := rIxL K) ix_list (pv 0) pe_int (fun _ _ => rfl)) pe_int (nomark _)) (pw_and1 (pt_cmpR op_lt (pe_ix (r := rIxL K) ix_list (pv 0) pe_int (fun _ _ => rfl)) (pe_callB (r := rLenK K) call_len_seq (by rfl) T.len (by decide +kernel) (pa_cons (pe_ix (r := rIxL K) ix_list (pv 0) pe_int (fun _ _ => rfl)) pa_nil)) (nomark _))))) (pss_cons (ps_set (i := 2) sc_pull.nd rfl (Or.inl rfl) (pe_ix (r := rIxL K) ix_list (pe_ix (r := rIxL K) ix_list (pv 0) pe_int (fun _ _ => rfl)) (pe_ix (r := rIxL K) ix_list (pv 0) pe_int (fun _ _ => rfl)) (fun _ _ => rfl)))
    (pss_cons (ps_asg (pe_op op_add (pe_ix (r := rIxL K) ix_list (pv 0) pe_int (fun _ _ => rfl)) pe_int) (pg_sub (pv 0) pe_int set_list))
    (pss_one (ps_if (pt_cmpR op_ge (pv 2) (pe_op op_pow pe_int pe_int) (nomark _)) (pss_one (ps_asg (pv 2) (pg_sub (pv 0) pe_int set_list))) (pss_one (ps_asg (pe_op op_mod (pe_op op_add (pe_op op_add (pe_op op_mul (pe_ix (r := rIxL K) ix_list (pv 0) pe_int (fun _ _ => rfl)) pe_int) (pe_op op_mul (pe_op op_mod (pv 2) pe_int) pe_int)) pe_int) pe_int) (pg_sub (pv 0) pe_int set_list))))))) pss_nil)
    (pss_cons (ps_if (pt_cmpR op_gt (pe_ix (r := rIxL K) ix_list (pv 0) pe_int (fun _ _ => rfl)) pe_int (nomark _)) (pss_cons (ps_set (i := 3) sc_pull.nd rfl (Or.inl rfl) (pe_op op_mod (pe_ix (r := rIxL K) ix_list (pv 0) pe_int (fun _ _ => rfl)) (pv 1)))
    (pss_cons (ps_asg (pe_op op_fdivW (pe_ix (r := rIxL K) ix_list (pv 0) pe_int (fun _ _ => rfl)) (pv 1)) (pg_sub (pv 0) pe_int set_list))
    (pss_one (ps_ret (pv 3))))) pss_nil)
    (pss_cons (ps_asg (pe_op op_add (pe_ix (r := rIxL K) ix_list (pv 0) pe_int (fun _ _ => rfl)) pe_int) (pg_sub (pv 0) pe_int set_list))
    (pss_cons (ps_set (i := 4) sc_pull.nd rfl (Or.inl rfl) (pe_op op_mod (pe_op op_add (pe_ix (r := rIxL K) ix_list (pv 0) pe_int (fun _ _ => rfl)) (pe_op op_mul (pe_ix (r := rIxL K) ix_list (pv 0) pe_int (fun _ _ => rfl)) pe_int)) pe_int))
    (pss_cons (ps_asg (pe_op op_mod (pe_op op_add (pe_op op_add (pe_op op_mul (pe_op op_mod (pe_op op_mul (pv 4) (pv 4)) pe_int) (pv 4)) (pe_op op_mul pe_int (pv 4))) pe_int) pe_int) (pg_sub (pv 0) pe_int set_list))
    (pss_one (ps_ret (pe_op op_mod (pe_op op_add (pe_op op_fdiv (pe_ix (r := rIxL K) ix_list (pv 0) pe_int (fun _ _ => rfl)) pe_int) (pe_op op_mul (pe_op op_mod (pe_ix (r := rIxL K) ix_list (pv 0) pe_int (fun _ _ => rfl)) pe_int) pe_int)) (pv 1))))))))), ?_⟩
  have hbL : SqL K H b (bagL l i c s t) := SqL.of h1
  have a0 : ∀ {i c s t : Int}, atI (bagL l i c s t) 0 = some (.ref l) := at_of (j := 0) rfl rfl
  have a1 : ∀ {i c s t : Int}, atI (bagL l i c s t) 1 = some (.int i) := at_of (j := 1) rfl rfl
  have a2 : ∀ {i c s t : Int}, atI (bagL l i c s t) 2 = some (.int c) := at_of (j := 2) rfl rfl
  have a3 : ∀ {i c s t : Int}, atI (bagL l i c s t) 3 = some (.int s) := at_of (j := 3) rfl rfl
  have a4 : ∀ {i c s t : Int}, atI (bagL l i c s t) 4 = some (.int t) := at_of (j := 4) rfl rfl
  refine seq_key (fun σ' H' => ∃ (i c s : Int) (u : Option V), σ' = [some (.ref b), some (.int m), u, none, none] ∧ 0 ≤ i ∧ 0 ≤ c ∧ 0 ≤ s ∧ s < 2147483647 ∧ Apart b H H' ∧ H' b = some (.lst (bagL l i c s t)) ∧ H' l = some (.lst (ns.map V.int))) ?_ (fun k => ?_)
  · rintro σ' H' ⟨i, c, s, u, rfl, hi, hc, hs, hs2, hA, h1, h2⟩
    have hbL : SqL K H' b (bagL l i c s t) := SqL.of h1
    refine seq_key (fun σ' H2 => σ' = [some (.ref b), some (.int m), u, none, none] ∧ H' = H2) ?_ (fun k => ?_)
    · rintro _ _ ⟨rfl, rfl⟩
      -- the count, the seed, the draw
      refine ⟨_, rfl, b, _, _, _, rfl, rfl, hbL, a4, _, _, rfl, rfl, _, rfl, b, _, _, _, rfl, rfl, h1, rfl, ?_⟩
      refine ⟨_, rfl, b, _, _, _, rfl, rfl, SqL.of upd_same, at_of (j := 3) rfl rfl, _, rfl, b, _, _, _, rfl, rfl, SqL.of upd_same, at_of (j := 4) rfl rfl, _, _, rfl, rfl, .inr ⟨by decide, by decide⟩, _, _, rfl, rfl, _, _, rfl, rfl, (by show (0 : Int) < 2147483647; decide), ?_⟩
      have d0 : 0 ≤ (s + (t + 1) * 7919) % 2147483647 := Int.emod_nonneg _ (by decide)
      have d1 : (s + (t + 1) * 7919) % 2147483647 < 2147483647 := Int.emod_lt_of_pos _ (by decide)
      have d2 : -(2 ^ 64) < (s + (t + 1) * 7919) % 2147483647 ∧ (s + (t + 1) * 7919) % 2147483647 < 2 ^ 64 := ⟨by omega, by omega⟩
      refine ⟨_, rfl, _, rfl, _, _, rfl, rfl, .inr d2, _, _, rfl, rfl, (by show (0 : Int) < 2147483629; decide), _, rfl, _, _, rfl, rfl, .inr d2, _, rfl, _, _, rfl, rfl, .inl ⟨by decide, by decide⟩, _, _, rfl, rfl, _, _, rfl, rfl, _, _, rfl, rfl, (by show (0 : Int) < 2147483647; decide), ?_⟩
      refine ⟨_, rfl, b, _, _, _, rfl, rfl, upd_same, rfl, ?_⟩
      refine ⟨_, rfl, b, _, _, _, rfl, rfl, SqL.of upd_same, at_of (j := 3) rfl rfl, _, _, rfl, rfl, ⟨by decide, by decide⟩, _, rfl, b, _, _, _, rfl, rfl, SqL.of upd_same, at_of (j := 3) rfl rfl, _, _, rfl, rfl, (by show (0 : Int) < 8191; decide), _, _, rfl, rfl, .inr ⟨by decide, by decide⟩, _, _, rfl, rfl, _, rfl, _, _, rfl, rfl, hm, ?_⟩
      refine q _ _ (Int.emod_nonneg _ (Int.ne_of_gt hm)) (Int.emod_lt_of_pos _ hm) ((hA.trans (Apart.set _)).trans (Apart.set _)) ?_
      refine Bag.put (i := i) (c := c) (s := s) (t := t + 1) (ns := ns) (i' := i) (c' := c) (t' := t + 1) upd_same ?_ hi hc (Int.emod_nonneg _ (by decide)) (Int.emod_lt_of_pos _ (by decide))
      rw [upd_ne (ne_of h2 h1 bag_ne)]
      exact h2
    · refine ⟨_, rfl, b, _, _, _, rfl, rfl, hbL, a2, _, _, rfl, rfl, _, rfl, ?_⟩
      refine ite2 (fun c0 => ?_) (fun c0 => ?_)
      · refine ⟨_, rfl, b, _, _, _, rfl, rfl, hbL, a2, _, rfl, _, _, rfl, rfl, hm, ?_⟩
        refine ⟨_, rfl, b, _, _, _, rfl, rfl, hbL, a2, _, rfl, _, _, rfl, rfl, wide_div hm hm2 (by decide) (by decide), _, rfl, b, _, _, _, rfl, rfl, h1, rfl, ?_⟩
        refine ⟨_, rfl, ?_⟩
        refine q _ _ (Int.emod_nonneg _ (Int.ne_of_gt hm)) (Int.emod_lt_of_pos _ hm) (hA.trans (Apart.set _)) ?_
        exact Bag.put h1 h2 hi (Int.ediv_nonneg hc (Int.le_of_lt hm)) hs hs2
      · exact k _ _ ⟨rfl, rfl⟩
  · refine ⟨_, rfl, b, _, _, _, rfl, rfl, hbL, a2, rfl, _, rfl, ?_⟩
    refine ite2 (fun c0 => ?_) (fun c0 => ?_)
    · refine ⟨_, rfl, b, _, _, _, rfl, rfl, hbL, a1, _, rfl, b, _, _, _, rfl, rfl, hbL, a0, l, _, rfl, .inl (SqL.of h2), _, _, rfl, rfl, _, rfl, ?_⟩
      refine ite2 (fun c1 => ?_) (fun c1 => ?_)
      · have c2 : i < (((ns.map V.int).length : Nat) : Int) := of_decide_eq_true c1
        rw [List.length_map] at c2
        obtain ⟨z, hz⟩ : ∃ z : Int, (ns.map V.int)[i.toNat]? = some (.int z) := by
          rw [List.getElem?_map, List.getElem?_eq_getElem (by omega)]
          exact ⟨_, rfl⟩
        refine ⟨_, rfl, b, _, _, _, rfl, rfl, hbL, a0, _, rfl, b, _, _, _, rfl, rfl, hbL, a1, l, _, _, _, rfl, rfl, SqL.of h2, at_of (j := i.toNat) (by omega) hz, ?_⟩
        refine ⟨_, rfl, b, _, _, _, rfl, rfl, hbL, a1, _, _, rfl, rfl, _, rfl, b, _, _, _, rfl, rfl, h1, rfl, ?_⟩
        have g1 : SqL K (upd H b (.lst (bagL l (i + 1) c s t))) b (bagL l (i + 1) c s t) := SqL.of upd_same
        have g2 : upd H b (.lst (bagL l (i + 1) c s t)) l = some (.lst (ns.map V.int)) := by
          rw [upd_ne (ne_of h2 h1 bag_ne)]
          exact h2
        refine ⟨_, rfl, _, _, rfl, rfl, ⟨by decide, by decide, by decide⟩, _, _, rfl, rfl, _, rfl, ?_⟩
        refine ite2 (fun c3 => ?_) (fun c3 => ?_)
        · have c4 : (10 : Int) ^ (18 : Int).toNat ≤ z := of_decide_eq_true c3
          have c5 : (0 : Int) ≤ z := Int.le_trans (by decide) c4
          refine ⟨_, rfl, _, rfl, b, _, _, _, rfl, rfl, upd_same, rfl, ?_⟩
          refine k _ _ ⟨i + 1, z, s, _, rfl, by omega, c5, hs, hs2, (Apart.set _).trans (Apart.set _), upd_same, ?_⟩
          rw [upd_ne (ne_of h2 h1 bag_ne)]
          exact g2
        · refine ⟨_, rfl, b, _, _, _, rfl, rfl, g1, a3, _, _, rfl, rfl, .inr ⟨by decide, by decide⟩, _, rfl, _, _, rfl, rfl, (by show (0 : Int) < 2147483549; decide), _, _, rfl, rfl, .inr ⟨by decide, by decide⟩, _, _, rfl, rfl, _, _, rfl, rfl, _, _, rfl, rfl, (by show (0 : Int) < 2147483647; decide), ?_⟩
          refine ⟨_, rfl, b, _, _, _, rfl, rfl, upd_same, rfl, ?_⟩
          refine k _ _ ⟨i + 1, c, _, _, rfl, by omega, hc, Int.emod_nonneg _ (by decide), Int.emod_lt_of_pos _ (by decide), (Apart.set _).trans (Apart.set _), upd_same, ?_⟩
          rw [upd_ne (ne_of h2 h1 bag_ne)]
          exact g2
      · exact k _ _ ⟨i, c, s, _, rfl, hi, hc, hs, hs2, Apart.refl b H, h1, h2⟩
    · exact k _ _ ⟨i, c, s, _, rfl, hi, hc, hs, hs2, Apart.refl b H, h1, h2⟩
theorem Apart.seq {K : PySem.W.Frag} {b a : Addr} {H H' : Hp} {xs : List V} (e : Apart b H H') (n : a ≠ b) (h : SqL K H a xs) : SqL K H' a xs := by
  rcases h with (h | ⟨o, h⟩) | h
  · exact .inl (.inl (e _ _ n h))
  · exact .inl (.inr ⟨o, e _ _ n h⟩)
  · exact .inr h
theorem ok_of (T : Txt K mg A) : FnOk P w K mg base CX0 2 A.f_of A.fd_of ["_law_bag_here", "_law_some"] (spOf K) := by
  refine T.d_of.F.ok sc_of (fun vs H Q E h => ?_) (fun cdv ar outer s H vs Q E hr h => ?_)
  · obtain ⟨b, l, a, xs, rfl, _⟩ := h
    rfl
  obtain ⟨b, l, a, xs, rfl, hB, hS, hn, h0, h1, q⟩ := h
  refine ⟨_, (pss_one (ps_ret (pe_ix (r := rIx K) ix_seq (pv 1) (pe_call (ok_pull T) (hr.mono (by decide)) rfl T.d_pull.m T.d_pull.F.kp T.d_pull.b .nil pass0 (pa_cons (pv 0) (pa_cons (pe_callB (r := rLenK K) call_len_seq (by rfl) T.len (by decide +kernel) (pa_cons (pv 1) pa_nil)) pa_nil))) (fun _ _ => rfl)))), ?_⟩
  refine ⟨_, rfl, _, rfl, _, rfl, a, _, rfl, .inl hS, b, l, _, rfl, hB, by omega, Nat.lt_of_le_of_lt (show ((xs.length : Nat) : Int).natAbs ≤ 1000 by omega) (by decide), fun r H' r0 r1 ap bg => ?_⟩
  have hi : r.toNat < xs.length := by omega
  refine .inl ⟨a, _, _, _, rfl, rfl, ap.seq hn hS, at_of (j := r.toNat) (by omega) (List.getElem?_eq_getElem hi), ?_⟩
  exact q r.toNat _ H' (List.getElem?_eq_getElem hi) ap bg

/-! ### the comparison -/
/-- two flat values are one -/
def Flat : V → Prop
  | .non => True
  | .bl _ => True
  | .int _ => True
  | .str _ => True
  | _ => False
/-- x and y hold the same data, at most n lists one in another -/
def EqD (K : PySem.W.Frag) (H : Hp) : Nat → V → V → Prop
  | 0, x, y => x = y ∧ Flat x
  | n + 1, x, y => (x = y ∧ Flat x) ∨ (∃ (a b : Addr) (xs ys : List V), x = .ref a ∧ y = .ref b ∧ H a = some (.lst xs) ∧ H b = some (.lst ys) ∧ Paired (EqD K H n) xs ys ∧ xs.length ≤ 100000) ∨
    (∃ (a b : Addr) (xs ys : List V), x = .ref a ∧ y = .ref b ∧ H a = some (.tup xs) ∧ H b = some (.tup ys) ∧ Paired (EqD K H n) xs ys ∧ xs.length ≤ 100000)
theorem EqD.flat {K : PySem.W.Frag} {H : Hp} {x : V} (h : Flat x) : ∀ {n : Nat}, EqD K H n x x
  | 0 => ⟨rfl, h⟩
  | _ + 1 => .inl ⟨rfl, h⟩
theorem paired_imp {α β : Type} {R S : α → β → Prop} (f : ∀ a b, R a b → S a b) : ∀ {xs : List α} {ys : List β}, Paired R xs ys → Paired S xs ys
  | _, _, .nil => .nil
  | _, _, .cons h t => .cons (f _ _ h) (paired_imp f t)
theorem EqD.mono {K : PySem.W.Frag} {H H' : Hp} (e : Same H H') : ∀ {n : Nat} {x y : V}, EqD K H n x y → EqD K H' n x y
  | 0, _, _, h => h
  | n + 1, x, y, h => by
    rcases h with h | ⟨a, b, xs, ys, h1, h2, h3, h4, h5, h6⟩ | ⟨a, b, xs, ys, h1, h2, h3, h4, h5, h6⟩
    · exact .inl h
    · exact .inr (.inl ⟨a, b, xs, ys, h1, h2, e _ _ h3, e _ _ h4, paired_imp (fun _ _ z => EqD.mono e z) h5, h6⟩)
    · exact .inr (.inr ⟨a, b, xs, ys, h1, h2, e _ _ h3, e _ _ h4, paired_imp (fun _ _ z => EqD.mono e z) h5, h6⟩)
theorem paired_len {α β : Type} {R : α → β → Prop} : ∀ {xs : List α} {ys : List β}, Paired R xs ys → xs.length = ys.length
  | _, _, .nil => rfl
  | _, _, .cons _ t => congrArg (· + 1) (paired_len t)
theorem paired_at {α β : Type} {R : α → β → Prop} : ∀ {xs : List α} {ys : List β} {i : Nat} {y : β}, Paired R xs ys → ys[i]? = some y → ∃ x, xs[i]? = some x ∧ R x y
  | _, _, _, _, .nil, e => by cases e
  | x :: _, _, 0, _, .cons r _, e => by cases e; exact ⟨x, rfl, r⟩
  | _, _, i + 1, y, .cons _ t, e => by
    obtain ⟨x, h1, h2⟩ := paired_at (i := i) (y := y) t (by simpa using e)
    exact ⟨x, by simpa using h1, h2⟩
def spSame (K : PySem.W.Frag) (n : Nat) : Sp := fun vs H Q _ => ∃ (x y : V), vs = [x, y] ∧ EqD K H n x y ∧ ∀ (H' : Hp), Same H H' → Q (.bl true) H'
theorem kt_lt {t : String} {b : Bool} (h1 : kitB t "list" = some false) (h2 : kitB t "tuple" = some b) : PySem.W.kitAny K (.type t) [.type "list", .type "tuple"] = some b :=
  kitAny_cons (kit_ty h1) (fun _ => by
    cases b with
    | true => exact kitAny_cons (kit_ty h2) (fun z => nomatch z) (fun _ => rfl)
    | false => exact kitAny_cons (kit_ty h2) (fun _ => kitAny_nil) (fun z => nomatch z)) (fun z => nomatch z)
theorem kt_l : PySem.W.kitAny K (.type "list") [.type "list", .type "tuple"] = some true := kitAny_cons (b := true) (kit_ty (by decide +kernel)) (fun z => Bool.noConfusion z) (fun _ => rfl)
theorem kt_t : PySem.W.kitAny K (.type "tuple") [.type "list", .type "tuple"] = some true := kt_lt (by decide +kernel) (by decide +kernel)
theorem cls2 : Paired ClsV [V.ty "list", V.ty "tuple"] [Value.type "list", Value.type "tuple"] := .cons (.ty _) (.cons (.ty _) .nil)
theorem isi_flat {v : V} (h : Flat v) (hn : v ≠ .non) : ∃ (t : String) (a b c : Bool), (∀ H, TyX K H v (.type t)) ∧ kitB t "list" = some false ∧ kitB t "tuple" = some false ∧ kitB t "bool" = some a ∧ kitB t "int" = some b ∧ kitB t "str" = some c := by
  cases v with
  | non => exact absurd rfl hn
  | bl b => exact ⟨"bool", true, true, false, fun _ => .base (.bl b), by decide +kernel, by decide +kernel, by decide +kernel, by decide +kernel, by decide +kernel⟩
  | int i => exact ⟨"int", false, true, false, fun _ => .base (.int i), by decide +kernel, by decide +kernel, by decide +kernel, by decide +kernel, by decide +kernel⟩
  | str x => exact ⟨"str", false, false, true, fun _ => .base (.str x), by decide +kernel, by decide +kernel, by decide +kernel, by decide +kernel, by decide +kernel⟩
  | byt _ => exact h.elim
  | flt _ => exact h.elim
  | ref _ => exact h.elim
  | ty _ => exact h.elim
theorem scal_flat {v : V} (h : Flat v) : scal v v = true := by
  cases v <;> first | rfl | exact h.elim
theorem ne_bl (a : Bool) : (!decide (V.bl a = V.bl a)) = false := by rw [decide_eq_true rfl]; rfl
theorem ok_same_step (T : Txt K mg A) (n : Nat) (G : ∀ m, n = m + 1 → FnOk P w K mg base CX0 n A.f_same A.fd_same ["_law_found", "_law_due"] (spSame K m)) : FnOk P w K mg base CX0 (n + 1) A.f_same A.fd_same ["_law_found", "_law_due"] (spSame K n) := by
  refine T.d_same.F.ok sc_same (fun vs H Q E h => ?_) (fun cdv ar outer s H vs Q E hr h => ?_)
  · obtain ⟨x, y, rfl, _⟩ := h
    rfl
  obtain ⟨x, y, rfl, hE, q⟩ := h
  by_cases hf : Flat x ∧ x = y
  · obtain ⟨hf, rfl⟩ := hf
    have G : FnOk P w K mg base CX0 n A.f_same A.fd_same ["_law_found", "_law_due"] (fun _ _ _ _ => False) := ⟨fun _ _ _ _ h => h.elim, fun _ _ _ _ _ _ _ _ _ _ _ _ _ h => h.elim⟩
    refine ⟨_, (pss_cons (ps_if (PW.pt (pw_or (pt_cmpR op_isN (pv 1) pe_non (nomark _)) (pw_or1 (pt_cmpR op_isN (pv 0) pe_non (nomark _))))) (pss_one (ps_ret (pe_and (pe_cmpR op_isN (pv 0) pe_non (nomark _)) (pe_one (pe_cmpR op_isN (pv 1) pe_non (nomark _)))))) pss_nil)
    (pss_cons (ps_if (pt_val (pe_callB (r := rIsiT K) call_isiT (by rfl) T.isinstance (by decide +kernel) (pa_cons (pv 1) (pa_cons (pe_tup (pa_cons (pe_bltn (v := .ty "list") (u := .type "list") (by rfl) T.list (by decide +kernel) rfl) (pa_cons (pe_bltn (v := .ty "tuple") (u := .type "tuple") (by rfl) T.tuple (by decide +kernel) rfl) pa_nil))) pa_nil)))) (pss_cons (ps_if (PW.pt (pw_or (pt_cmpR op_ne (pe_callB (r := rIsi K) call_isi (by rfl) T.isinstance (by decide +kernel) (pa_cons (pv 0) (pa_cons (pe_bltn (v := .ty "list") (u := .type "list") (by rfl) T.list (by decide +kernel) rfl) pa_nil))) (pe_callB (r := rIsi K) call_isi (by rfl) T.isinstance (by decide +kernel) (pa_cons (pv 1) (pa_cons (pe_bltn (v := .ty "list") (u := .type "list") (by rfl) T.list (by decide +kernel) rfl) pa_nil))) (nomark _)) (pw_or1 (pt_cmpR op_ne (pe_callB (r := rIsi K) call_isi (by rfl) T.isinstance (by decide +kernel) (pa_cons (pv 0) (pa_cons (pe_bltn (v := .ty "tuple") (u := .type "tuple") (by rfl) T.tuple (by decide +kernel) rfl) pa_nil))) (pe_callB (r := rIsi K) call_isi (by rfl) T.isinstance (by decide +kernel) (pa_cons (pv 1) (pa_cons (pe_bltn (v := .ty "tuple") (u := .type "tuple") (by rfl) T.tuple (by decide +kernel) rfl) pa_nil))) (nomark _))))) (pss_one (ps_ret pe_bl)) pss_nil)
    (pss_one (ps_ret (pe_and (pe_cmpR op_eq (pe_callB (r := rLenK K) call_len_seq (by rfl) T.len (by decide +kernel) (pa_cons (pv 0) pa_nil)) (pe_callB (r := rLenK K) call_len_seq (by rfl) T.len (by decide +kernel) (pa_cons (pv 1) pa_nil)) (nomark _)) (pe_one (pe_callB (r := rAll K) (cr_all rfl) (by rfl) T.all (by decide +kernel) (pa_cons (pe_lc (own := [("_law_k", 2)]) (g := gName 2) (tt := tYes) rfl sc_same.nd (pi_range1 rfl T.range (pa_cons (pe_callB (r := rLenK K) call_len_seq (by rfl) T.len (by decide +kernel) (pa_cons (pv 1) pa_nil)) pa_nil)) (blkOk_by (own := [("_law_k", 2)]) (N := ["_law_found", "_law_due", "_law_k"]) (sc := defScope s_same) (by decide +kernel)) (fun _ _ _ _ _ => (pg_name (i := 2) sc_same.nd rfl (Or.inl rfl))) (fun _ _ _ _ _ => pts_nil) (fun _ _ _ _ _ => (pe_call G hr rfl T.d_same.m T.d_same.F.kp T.d_same.b .nil pass0 (pa_cons (pe_ix (r := rIx K) ix_seq (pv 0) (pv 2) (fun _ _ => rfl)) (pa_cons (pe_ix (r := rIx K) ix_seq (pv 1) (pv 2) (fun _ _ => rfl)) pa_nil))))) pa_nil))))))) pss_nil)
    (pss_cons (ps_if (PW.pt (pw_or (pt_cmpR op_ne (pe_callB (r := rIsi K) call_isi (by rfl) T.isinstance (by decide +kernel) (pa_cons (pv 1) (pa_cons (pe_bltn (v := .ty "bool") (u := .type "bool") (by rfl) T.bool (by decide +kernel) rfl) pa_nil))) (pe_callB (r := rIsi K) call_isi (by rfl) T.isinstance (by decide +kernel) (pa_cons (pv 0) (pa_cons (pe_bltn (v := .ty "bool") (u := .type "bool") (by rfl) T.bool (by decide +kernel) rfl) pa_nil))) (nomark _)) (pw_or1 (pt_cmpR op_ne (pe_callB (r := rIsi K) call_isi (by rfl) T.isinstance (by decide +kernel) (pa_cons (pv 1) (pa_cons (pe_bltn (v := .ty "int") (u := .type "int") (by rfl) T.int (by decide +kernel) rfl) pa_nil))) (pe_callB (r := rIsi K) call_isi (by rfl) T.isinstance (by decide +kernel) (pa_cons (pv 0) (pa_cons (pe_bltn (v := .ty "int") (u := .type "int") (by rfl) T.int (by decide +kernel) rfl) pa_nil))) (nomark _))))) (pss_one (ps_ret pe_bl)) pss_nil)
    (pss_one (ps_ret (pe_and (pe_cmpR op_eq (pe_callB (r := rIsi K) call_isi (by rfl) T.isinstance (by decide +kernel) (pa_cons (pv 1) (pa_cons (pe_bltn (v := .ty "str") (u := .type "str") (by rfl) T.str (by decide +kernel) rfl) pa_nil))) (pe_callB (r := rIsi K) call_isi (by rfl) T.isinstance (by decide +kernel) (pa_cons (pv 0) (pa_cons (pe_bltn (v := .ty "str") (u := .type "str") (by rfl) T.str (by decide +kernel) rfl) pa_nil))) (nomark _)) (pe_one (pe_cmpR op_eq (pv 0) (pv 1) (nomark _))))))))), ?_⟩
    by_cases hn : x = .non
    · subst hn
      refine ⟨_, rfl, rfl, _, rfl, iteT (iteT ?_)⟩
      refine ⟨_, rfl, rfl, _, rfl, iteT ⟨_, rfl, rfl, ?_⟩⟩
      exact q _ (Same.refl H)
    · have d0 : decide (x = V.non) = false := decide_eq_false hn
      refine ⟨_, rfl, rfl, _, rfl, ?_⟩
      rw [d0]
      refine iteF ⟨_, rfl, rfl, _, rfl, ?_⟩
      rw [d0]
      refine iteF ?_
      obtain ⟨t, a, b, c, ty, k1, k2, k3, k4, k5⟩ := isi_flat (K := K) hf hn
      refine ⟨_, rfl, sl_small (by decide), fun p hp => ⟨_, p, _, _, _, false, rfl, upd_same, cls2, ty _, kt_lt k1 k2, _, rfl, iteF ?_⟩⟩
      refine ⟨_, rfl, _, _, _, _, _, rfl, .ty _, ty _, kit_ty k3, _, rfl, _, _, _, _, _, rfl, .ty _, ty _, kit_ty k3, rfl, _, rfl, ?_⟩
      rw [ne_bl]
      refine iteF ⟨_, rfl, _, _, _, _, _, rfl, .ty _, ty _, kit_ty k4, _, rfl, _, _, _, _, _, rfl, .ty _, ty _, kit_ty k4, rfl, _, rfl, ?_⟩
      rw [ne_bl]
      refine iteF ⟨_, rfl, _, _, _, _, _, rfl, .ty _, ty _, kit_ty k5, _, rfl, _, _, _, _, _, rfl, .ty _, ty _, kit_ty k5, rfl, _, rfl, ?_⟩
      rw [decide_eq_true rfl]
      refine iteT ⟨_, rfl, _, rfl, scal_flat hf, ?_⟩
      rw [decide_eq_true rfl]
      exact q _ (Same.new hp _)
  · -- two lists, or two tuples
    obtain ⟨m, rfl, b1, a, b, xs, ys, T1, rfl, rfl, hP, hl⟩ : ∃ (m : Nat), n = m + 1 ∧ ∃ (tl : Bool) (a b : Addr) (xs ys : List V) (_ : H a = some (if tl then HO.lst xs else HO.tup xs) ∧ H b = some (if tl then HO.lst ys else HO.tup ys)), x = .ref a ∧ y = .ref b ∧ Paired (EqD K H m) xs ys ∧ xs.length ≤ 100000 := by
      cases n with
      | zero => exact absurd ⟨hE.2, hE.1⟩ hf
      | succ m =>
        rcases hE with h | ⟨a, b, xs, ys, h1, h2, h3, h4, h5, h6⟩ | ⟨a, b, xs, ys, h1, h2, h3, h4, h5, h6⟩
        · exact absurd ⟨h.2, h.1⟩ hf
        · exact ⟨m, rfl, true, a, b, xs, ys, ⟨h3, h4⟩, h1, h2, h5, h6⟩
        · exact ⟨m, rfl, false, a, b, xs, ys, ⟨h3, h4⟩, h1, h2, h5, h6⟩
    obtain ⟨ha, hb⟩ := T1
    have G := G m rfl
    have hlen := paired_len hP
    have seq : ∀ {H' : Hp} {a : Addr} {xs : List V}, H' a = some (if b1 then HO.lst xs else HO.tup xs) → SqL K H' a xs ∨ SqT K H' a xs := fun {H' a xs} h => by
      cases b1 with
      | true => exact .inl (SqL.of h)
      | false => exact .inr (SqT.of h)
    have ixs : ∀ {H' : Hp} {a : Addr} {xs : List V} {i : Nat} {v : V} {Q : VK}, H' a = some (if b1 then HO.lst xs else HO.tup xs) → xs[i]? = some v → Q v H' → rIx K (.ref a) (.int (0 + (i : Int))) H' Q := fun {H' a xs i v Q} h e k => by
      cases b1 with
      | true => exact .inl ⟨a, _, _, _, rfl, rfl, SqL.of h, at_of (j := i) (by omega) e, k⟩
      | false => exact .inr (.inl ⟨a, _, _, _, rfl, rfl, SqT.of h, at_of (j := i) (by omega) e, k⟩)
    obtain ⟨t, ty, k1, k2, k3⟩ : ∃ t : String, (∀ (H' : Hp) (a : Addr) (xs : List V), H' a = some (if b1 then HO.lst xs else HO.tup xs) → TyX K H' (.ref a) (.type t)) ∧ PySem.W.kitAny K (.type t) [.type "list", .type "tuple"] = some true ∧ (∃ c, kitB t "list" = some c) ∧ (∃ c, kitB t "tuple" = some c) := by
      cases b1 with
      | true => exact ⟨"list", fun _ _ _ h => .base (.lst h), kt_l, ⟨true, by decide +kernel⟩, ⟨false, by decide +kernel⟩⟩
      | false => exact ⟨"tuple", fun _ _ _ h => .base (.tup h), kt_t, ⟨false, by decide +kernel⟩, ⟨true, by decide +kernel⟩⟩
    obtain ⟨⟨c1, k2⟩, ⟨c2, k3⟩⟩ := And.intro k2 k3
    refine ⟨_, (pss_cons (ps_if (PW.pt (pw_or (pt_cmpR op_isN (pv 1) pe_non (nomark _)) (pw_or1 (pt_cmpR op_isN (pv 0) pe_non (nomark _))))) (pss_one (ps_ret (pe_and (pe_cmpR op_isN (pv 0) pe_non (nomark _)) (pe_one (pe_cmpR op_isN (pv 1) pe_non (nomark _)))))) pss_nil)
    (pss_cons (ps_if (pt_val (pe_callB (r := rIsiT K) call_isiT (by rfl) T.isinstance (by decide +kernel) (pa_cons (pv 1) (pa_cons (pe_tup (pa_cons (pe_bltn (v := .ty "list") (u := .type "list") (by rfl) T.list (by decide +kernel) rfl) (pa_cons (pe_bltn (v := .ty "tuple") (u := .type "tuple") (by rfl) T.tuple (by decide +kernel) rfl) pa_nil))) pa_nil)))) (pss_cons (ps_if (PW.pt (pw_or (pt_cmpR op_ne (pe_callB (r := rIsi K) call_isi (by rfl) T.isinstance (by decide +kernel) (pa_cons (pv 0) (pa_cons (pe_bltn (v := .ty "list") (u := .type "list") (by rfl) T.list (by decide +kernel) rfl) pa_nil))) (pe_callB (r := rIsi K) call_isi (by rfl) T.isinstance (by decide +kernel) (pa_cons (pv 1) (pa_cons (pe_bltn (v := .ty "list") (u := .type "list") (by rfl) T.list (by decide +kernel) rfl) pa_nil))) (nomark _)) (pw_or1 (pt_cmpR op_ne (pe_callB (r := rIsi K) call_isi (by rfl) T.isinstance (by decide +kernel) (pa_cons (pv 0) (pa_cons (pe_bltn (v := .ty "tuple") (u := .type "tuple") (by rfl) T.tuple (by decide +kernel) rfl) pa_nil))) (pe_callB (r := rIsi K) call_isi (by rfl) T.isinstance (by decide +kernel) (pa_cons (pv 1) (pa_cons (pe_bltn (v := .ty "tuple") (u := .type "tuple") (by rfl) T.tuple (by decide +kernel) rfl) pa_nil))) (nomark _))))) (pss_one (ps_ret pe_bl)) pss_nil)
    (pss_one (ps_ret (pe_and (pe_cmpR op_eq (pe_callB (r := rLenK K) call_len_seq (by rfl) T.len (by decide +kernel) (pa_cons (pv 0) pa_nil)) (pe_callB (r := rLenK K) call_len_seq (by rfl) T.len (by decide +kernel) (pa_cons (pv 1) pa_nil)) (nomark _)) (pe_one (pe_callB (r := rAll K) (cr_all rfl) (by rfl) T.all (by decide +kernel) (pa_cons (pe_lc (own := [("_law_k", 2)]) (g := gName 2) (tt := tYes) rfl sc_same.nd (pi_range1 rfl T.range (pa_cons (pe_callB (r := rLenK K) call_len_seq (by rfl) T.len (by decide +kernel) (pa_cons (pv 1) pa_nil)) pa_nil)) (blkOk_by (own := [("_law_k", 2)]) (N := ["_law_found", "_law_due", "_law_k"]) (sc := defScope s_same) (by decide +kernel)) (fun _ _ _ _ _ => (pg_name (i := 2) sc_same.nd rfl (Or.inl rfl))) (fun _ _ _ _ _ => pts_nil) (fun _ _ _ _ _ => (pe_call G hr rfl T.d_same.m T.d_same.F.kp T.d_same.b .nil pass0 (pa_cons (pe_ix (r := rIx K) ix_seq (pv 0) (pv 2) (fun _ _ => rfl)) (pa_cons (pe_ix (r := rIx K) ix_seq (pv 1) (pv 2) (fun _ _ => rfl)) pa_nil))))) pa_nil))))))) pss_nil)
    (pss_cons (ps_if (PW.pt (pw_or (pt_cmpR op_ne (pe_callB (r := rIsi K) call_isi (by rfl) T.isinstance (by decide +kernel) (pa_cons (pv 1) (pa_cons (pe_bltn (v := .ty "bool") (u := .type "bool") (by rfl) T.bool (by decide +kernel) rfl) pa_nil))) (pe_callB (r := rIsi K) call_isi (by rfl) T.isinstance (by decide +kernel) (pa_cons (pv 0) (pa_cons (pe_bltn (v := .ty "bool") (u := .type "bool") (by rfl) T.bool (by decide +kernel) rfl) pa_nil))) (nomark _)) (pw_or1 (pt_cmpR op_ne (pe_callB (r := rIsi K) call_isi (by rfl) T.isinstance (by decide +kernel) (pa_cons (pv 1) (pa_cons (pe_bltn (v := .ty "int") (u := .type "int") (by rfl) T.int (by decide +kernel) rfl) pa_nil))) (pe_callB (r := rIsi K) call_isi (by rfl) T.isinstance (by decide +kernel) (pa_cons (pv 0) (pa_cons (pe_bltn (v := .ty "int") (u := .type "int") (by rfl) T.int (by decide +kernel) rfl) pa_nil))) (nomark _))))) (pss_one (ps_ret pe_bl)) pss_nil)
    (pss_one (ps_ret (pe_and (pe_cmpR op_eq (pe_callB (r := rIsi K) call_isi (by rfl) T.isinstance (by decide +kernel) (pa_cons (pv 1) (pa_cons (pe_bltn (v := .ty "str") (u := .type "str") (by rfl) T.str (by decide +kernel) rfl) pa_nil))) (pe_callB (r := rIsi K) call_isi (by rfl) T.isinstance (by decide +kernel) (pa_cons (pv 0) (pa_cons (pe_bltn (v := .ty "str") (u := .type "str") (by rfl) T.str (by decide +kernel) rfl) pa_nil))) (nomark _)) (pe_one (pe_cmpR op_eq (pv 0) (pv 1) (nomark _))))))))), ?_⟩
    refine ⟨_, rfl, rfl, _, rfl, iteF ?_⟩
    refine ⟨_, rfl, rfl, _, rfl, iteF ?_⟩
    refine ⟨_, rfl, sl_small (by decide), fun p hp => ?_⟩
    have s1 : Same H (upd H p (.tup [V.ty "list", V.ty "tuple"])) := Same.new hp _
    refine ⟨_, p, _, _, _, true, rfl, upd_same, cls2, ty _ _ _ (s1 _ _ hb), k1, _, rfl, iteT ?_⟩
    refine ⟨_, rfl, _, _, _, _, _, rfl, .ty _, ty _ _ _ (s1 _ _ ha), kit_ty k2, _, rfl, _, _, _, _, _, rfl, .ty _, ty _ _ _ (s1 _ _ hb), kit_ty k2, rfl, _, rfl, ?_⟩
    rw [ne_bl]
    refine iteF ⟨_, rfl, _, _, _, _, _, rfl, .ty _, ty _ _ _ (s1 _ _ ha), kit_ty k3, _, rfl, _, _, _, _, _, rfl, .ty _, ty _ _ _ (s1 _ _ hb), kit_ty k3, rfl, _, rfl, ?_⟩
    rw [ne_bl]
    refine iteF ⟨_, rfl, a, _, rfl, seq (s1 _ _ ha), _, rfl, b, _, rfl, seq (s1 _ _ hb), rfl, _, rfl, ?_⟩
    rw [hlen, decide_eq_true rfl]
    refine iteT ⟨_, rfl, b, _, rfl, seq (s1 _ _ hb), _, rfl, by omega, by omega, fun D hD => ?_⟩
    have s2 := s1.set (s1.free hD)
    refine lc_range (lo := 0) (n := ((ys.length : Nat) : Int).toNat) (fun i H' => Same H H' ∧ H' D = some (.lst (List.replicate i (V.bl true)))) ⟨s2 _, upd_same⟩ ?_ ?_
    · rintro i H' hi ⟨s3, hD'⟩
      have hi : i < ys.length := by omega
      obtain ⟨v, hv, he⟩ := paired_at hP (List.getElem?_eq_getElem hi)
      refine ⟨rfl, ?_⟩
      refine ⟨_, rfl, _, rfl, ixs (s3 _ _ ha) hv ⟨_, rfl, _, rfl, ixs (s3 _ _ hb) (List.getElem?_eq_getElem hi) ?_⟩⟩
      refine ⟨_, _, rfl, he.mono s3, fun H2 s4 => ?_⟩
      refine ⟨_, s4 _ _ hD', by rw [List.length_replicate]; exact sl_lt (by omega), (s3.trans s4).set (s1.free hD) _, ?_⟩
      rw [upd_same, List.replicate_succ']
    · rintro H' ⟨s3, hD'⟩
      refine ⟨D, List.replicate ys.length true, rfl, SqL.of (by rw [hD', List.map_replicate]; rfl), ?_⟩
      have e : (List.replicate ys.length true).all id = true := by
        rw [List.all_replicate]
        cases ys.length <;> rfl
      rw [e]
      exact q _ s3
theorem ok_same_at (T : Txt K mg A) : ∀ n : Nat, FnOk P w K mg base CX0 (n + 1) A.f_same A.fd_same ["_law_found", "_law_due"] (spSame K n)
  | 0 => ok_same_step T 0 fun m e => nomatch e
  | n + 1 => ok_same_step T (n + 1) fun m e => by
    have e2 : m = n := by omega
    subst e2
    exact ok_same_at T m
/-- data of at most nine levels -/
theorem ok_same (T : Txt K mg A) : FnOk P w K mg base CX0 10 A.f_same A.fd_same ["_law_found", "_law_due"] (spSame K 9) := ok_same_at T 9
end

/-! ## Fractions in the heap -/
open RM in
/-- the tuple of a fraction -/
def FR (x : Rat) : List V := [.int x.num, .int ((x.den : Nat) : Int)]
/-- a new tuple, all else as it was -/
def NewT (H : Hp) (Q : VK) (xs : List V) : Prop := ∀ (p : Addr) (H' : Hp), Same H H' → H p = none → H' p = some (.tup xs) → Q (.ref p) H'
theorem NewT.lay {H H1 : Hp} {Q : VK} {xs : List V} {p : Addr} (q : NewT H Q xs) (e : Same H H1) (h : H1 p = none) : Q (.ref p) (upd H1 p (.tup xs)) := q p _ (e.set (e.free h) _) (e.free h) upd_same
theorem fr_of {x : Rat} {n d : Int} (h1 : n = x.num) (h2 : d = ((x.den : Nat) : Int)) : ([.int n, .int d] : List V) = FR x := by
  rw [h1, h2]; rfl
theorem w_mul {i j : Int} {a b : Nat} (ha : i.natAbs < 2 ^ a) (hb : j.natAbs < 2 ^ b) (h : a + b + 2 ≤ 1000000) : CMulW i j :=
  wide_mul (a := a + 1) (b := b + 1) (Nat.lt_of_lt_of_le ha (RM.pow_le (by omega))) (Nat.lt_of_lt_of_le hb (RM.pow_le (by omega))) (by omega) (by omega) (by omega)
theorem w_div {i j : Int} {b : Nat} (h : 0 < j) (hb : j.natAbs < 2 ^ b) (h9 : b ≤ 8999) : CDivW i j :=
  wide_div h (Nat.lt_of_lt_of_le hb (RM.pow_le (show b ≤ b + 1 by omega))) (by omega) (by omega)
def rIxTV (H : Hp) (p : Addr) (xs : List V) (i : Nat) (v : V) : Prop := H p = some (.tup xs) ∧ xs[i]? = some v
def spGcd : Sp := fun vs H Q _ => ∃ (a b : Int), vs = [.int a, .int b] ∧ 0 ≤ b ∧ Q (.int ((Int.gcd a b : Nat) : Int)) H
def spLow : Sp := fun vs H Q _ => ∃ (a b : Int), vs = [.int a, .int b] ∧ 0 < b ∧ b.natAbs < 2 ^ 8000 ∧ NewT H Q (FR (Rat.divInt a b))
section
variable {P : Program} {w : World} {K : PySem.W.Frag} {mg : Str → Option Value} {base : Heap} {A : Ad}
theorem abs_is (i : Int) : (if i < 0 then -i else i) = ((i.natAbs : Nat) : Int) := by
  split <;> omega
theorem gcd_zero' (i : Int) : ((i.natAbs : Nat) : Int) = ((Int.gcd i 0 : Nat) : Int) := by rw [Int.gcd_zero]
theorem ok_gcd (T : Txt K mg A) : FnOk P w K mg base CX0 1 A.f_gcd A.fd_gcd ["_law_a", "_law_b"] spGcd := by
  refine T.d_gcd.F.ok sc_gcd (fun vs H Q E h => ?_) (fun cdv ar outer s H vs Q E hr h => ?_)
  · obtain ⟨a, b, rfl, _⟩ := h
    rfl
  obtain ⟨a, b, rfl, hb, q⟩ := h
  refine ⟨_, (pss_cons (ps_while PassesOwn.never (pt_cmpR op_ne (pv 1) pe_int (nomark _)) (pss_one (ps_par (i := 0) (j := 1) (by rfl) sc_gcd.nd rfl rfl (by decide) rfl rfl (pa_cons (pv 1) (pa_cons (pe_op op_mod (pv 0) (pv 1)) pa_nil)) (by rfl))))
    (pss_one (ps_ret (pe_callB call_abs (by rfl) T.abs (by decide +kernel) (pa_cons (pv 0) pa_nil))))), ?_⟩
  refine while_by (fun σ H' => H' = H ∧ ∃ x y : Int, σ = [some (.int x), some (.int y)] ∧ 0 ≤ y ∧ Int.gcd x y = Int.gcd a b) (fun σ _ => match σ with | [_, some (.int y)] => y.toNat | _ => 0) ⟨rfl, a, b, rfl, hb, rfl⟩ ?_ (fun σ H Q Q' m ⟨v, e, h1, k, e2, q⟩ => ⟨v, e, h1, k, e2, m _ _ q⟩)
  rintro σ _ ⟨rfl, x, y, rfl, hy, hg⟩
  refine ⟨_, rfl, rfl, _, rfl, ?_⟩
  by_cases h0 : y = 0
  · subst h0
    rw [decide_eq_true rfl]
    refine iteF ⟨_, rfl, _, rfl, ?_⟩
    rw [abs_is, gcd_zero', hg]
    exact q
  · have d0 : decide (V.int y = V.int 0) = false := decide_eq_false fun z => h0 (by injection z)
    rw [d0]
    refine iteT ⟨_, rfl, _, rfl, _, rfl, _, _, rfl, rfl, (by show 0 < y; omega), _, _, rfl, ?_⟩
    have hm := Int.emod_nonneg x h0
    have hl := Int.emod_lt_of_pos x (show 0 < y by omega)
    refine ⟨⟨rfl, y, x % y, rfl, hm, by rw [RM.gcd_step]; exact hg⟩, ?_⟩
    show (x % y).toNat < y.toNat
    omega
theorem ok_low (T : Txt K mg A) : FnOk P w K mg base CX0 2 A.f_low A.fd_low ["_law_a", "_law_b"] spLow := by
  refine T.d_low.F.ok sc_low (fun vs H Q E h => ?_) (fun cdv ar outer s H vs Q E hr h => ?_)
  · obtain ⟨a, b, rfl, _⟩ := h
    rfl
  obtain ⟨a, b, rfl, hb, hz, q⟩ := h
  have g0 : 0 < ((Int.gcd a b : Nat) : Int) := RM.gcd_posi (by omega)
  have g1 : ((Int.gcd a b : Nat) : Int).natAbs < 2 ^ 8000 := by
    refine Nat.lt_of_le_of_lt ?_ hz
    rw [RM.nat_abs]
    exact Nat.le_of_dvd (by omega) (Int.gcd_dvd_natAbs_right ..)
  refine ⟨_, (pss_cons (ps_set (i := 2) sc_low.nd rfl (Or.inl rfl) (pe_call (ok_gcd T) (hr.mono (by decide)) rfl T.d_gcd.m T.d_gcd.F.kp T.d_gcd.b .nil pass0 (pa_cons (pv 0) (pa_cons (pv 1) pa_nil))))
    (pss_one (ps_ret (pe_tup (pa_cons (pe_op op_fdivW (pv 0) (pv 2)) (pa_cons (pe_op op_fdivW (pv 1) (pv 2)) pa_nil)))))), ?_⟩
  refine ⟨_, rfl, _, rfl, a, b, rfl, by omega, ?_⟩
  refine ⟨_, rfl, _, rfl, _, _, rfl, rfl, w_div g0 g1 (by decide), _, rfl, _, rfl, _, _, rfl, rfl, w_div g0 g1 (by decide), slr rfl, fun p hp => ?_⟩
  show Q (.ref p) (upd H p (.tup [.int (a / ((Int.gcd a b : Nat) : Int)), .int (b / ((Int.gcd a b : Nat) : Int))]))
  rw [← RM.num_pos hb, ← RM.den_pos hb]
  exact q.lay (Same.refl H) hp
end

/-! ## The digits of a number, in groups -/
namespace NT
open PySem
/-- the last k digits -/
def lowD : Nat → Nat → List Char
  | 0, _ => []
  | k + 1, n => lowD k (n / 10) ++ [Nat.digitChar (n % 10)]
theorem lowD_len : ∀ k n, (lowD k n).length = k
  | 0, _ => rfl
  | k + 1, n => by
    show (lowD k (n / 10) ++ [Nat.digitChar (n % 10)]).length = k + 1
    rw [List.length_append, lowD_len k]
    rfl
theorem split_low : ∀ (k n : Nat), 10 ^ k ≤ n → Nat.toDigits 10 n = Nat.toDigits 10 (n / 10 ^ k) ++ lowD k n
  | 0, n, _ => by
    show _ = _ ++ []
    rw [Nat.pow_zero, Nat.div_one, List.append_nil]
  | k + 1, n, h => by
    rw [Nat.pow_succ] at h
    have h1 : 0 < 10 ^ k := Nat.pow_pos (by decide)
    have h2 : 10 ≤ n := by omega
    have h3 : 10 ^ k ≤ n / 10 := (Nat.le_div_iff_mul_le (by decide)).mpr h
    show _ = _ ++ (lowD k (n / 10) ++ [Nat.digitChar (n % 10)])
    rw [Nat.toDigits_of_base_le (by decide) h2, split_low k (n / 10) h3, Nat.div_div_eq_div_mul, List.append_assoc, Nat.pow_succ, Nat.mul_comm 10]
theorem lowD_zero : ∀ k, lowD k 0 = List.replicate k '0'
  | 0 => rfl
  | k + 1 => by
    show lowD k (0 / 10) ++ [Nat.digitChar (0 % 10)] = _
    rw [Nat.zero_div, lowD_zero k, List.replicate_succ']
    rfl
theorem pad_low : ∀ (k m : Nat), 1 ≤ k → m < 10 ^ k → List.replicate (k - (Nat.toDigits 10 m).length) '0' ++ Nat.toDigits 10 m = lowD k m
  | 0, _, h, _ => absurd h (by decide)
  | k + 1, m, _, h => by
    show _ = lowD k (m / 10) ++ [Nat.digitChar (m % 10)]
    by_cases h10 : m < 10
    · rw [Nat.toDigits_of_lt_base h10, Nat.div_eq_of_lt h10, Nat.mod_eq_of_lt h10, lowD_zero]
      rfl
    · have hk : 1 ≤ k := by
        rcases Nat.eq_zero_or_pos k with z | z
        · subst z
          omega
        · exact z
      have h3 : m / 10 < 10 ^ k := by
        rw [Nat.div_lt_iff_lt_mul (by decide)]
        rw [Nat.pow_succ] at h
        exact h
      rw [Nat.toDigits_of_base_le (by decide) (by omega), List.length_append, ← pad_low k (m / 10) hk h3, ← List.append_assoc]
      congr 3
      show k + 1 - (_ + 1) = _
      omega
theorem low_mod : ∀ (k n : Nat), lowD k (n % 10 ^ k) = lowD k n
  | 0, _ => rfl
  | k + 1, n => by
    show lowD k (n % 10 ^ (k + 1) / 10) ++ [Nat.digitChar (n % 10 ^ (k + 1) % 10)] = lowD k (n / 10) ++ [Nat.digitChar (n % 10)]
    have e1 : n % 10 ^ (k + 1) / 10 = n / 10 % 10 ^ k := by
      rw [Nat.pow_succ, Nat.mul_comm, Nat.mod_mul_right_div_self]
    have e2 : n % 10 ^ (k + 1) % 10 = n % 10 := Nat.mod_mod_of_dvd n ⟨10 ^ k, by rw [Nat.pow_succ, Nat.mul_comm]⟩
    rw [e1, e2, low_mod k]
/-- the text of a number -/
def txt (m : Nat) : Str := Str.ofString (toString ((m : Nat) : Int))
theorem txt_eq (m : Nat) : txt m = ⟨((Nat.toDigits 10 m).map Char.toNat).toArray⟩ := PyProof.Rows.text_ofNat m
theorem digit_not_sign : ∀ d < 10, (Nat.digitChar d).toNat ≠ 43 ∧ (Nat.digitChar d).toNat ≠ 45 := by decide
theorem digits_sign (m : Nat) : ∀ c ∈ Nat.toDigits 10 m, c.toNat ≠ 43 ∧ c.toNat ≠ 45 := by
  induction m using Nat.strongRecOn with
  | _ m ih =>
    intro c hc
    by_cases h : m < 10
    · rw [Nat.toDigits_of_lt_base h] at hc
      rw [List.mem_singleton.mp hc]
      exact digit_not_sign m h
    · rw [Nat.toDigits_of_base_le (by decide) (by omega)] at hc
      rcases List.mem_append.mp hc with z | z
      · exact ih (m / 10) (Nat.div_lt_self (by omega) (by decide)) c z
      · rw [List.mem_singleton.mp z]
        exact digit_not_sign _ (Nat.mod_lt _ (by decide))
theorem zfill_low {k m : Nat} (hk : 1 ≤ k) (h : m < 10 ^ k) : Txt.zfill (txt m) ((k : Nat) : Int) = ⟨((lowD k m).map Char.toNat).toArray⟩ := by
  have e := pad_low k m hk h
  rw [txt_eq]
  have hl : (⟨((Nat.toDigits 10 m).map Char.toNat).toArray⟩ : Str).length = (Nat.toDigits 10 m).length := by
    show (((Nat.toDigits 10 m).map Char.toNat).toArray).size = _
    rw [List.size_toArray, List.length_map]
  have hlow := congrArg List.length e
  rw [List.length_append, List.length_replicate, lowD_len] at hlow
  unfold Txt.zfill
  rw [hl]
  by_cases c : ((k : Nat) : Int) ≤ ((Nat.toDigits 10 m).length : Int)
  · rw [if_pos c, ← e, show k - (Nat.toDigits 10 m).length = 0 by omega]
    rfl
  · rw [if_neg c]
    have hne : ∀ x ∈ (((Nat.toDigits 10 m).map Char.toNat).toArray)[0]?, x ≠ 43 ∧ x ≠ 45 := fun x hx => by
      rw [List.getElem?_toArray, List.getElem?_map] at hx
      cases hd : (Nat.toDigits 10 m)[0]? with
      | none => rw [hd] at hx; cases hx
      | some c =>
        rw [hd] at hx
        cases hx
        exact digits_sign m c (List.mem_of_getElem? hd)
    unfold PySem.zfilled
    simp only []
    split
    · rename_i hq
      exact absurd rfl (hne 43 hq).1
    · rename_i hq
      exact absurd rfl (hne 45 hq).2
    · show (⟨_ ++ _ ++ _⟩ : Str) = _
      refine congrArg Str.mk ?_
      apply Array.toList_inj.mp
      rw [← e]
      simp [List.map_append]
/-- the last sixty-four digits apart -/
theorem txt_split {n : Nat} (h : 10 ^ 64 ≤ n) : txt n = txt (n / 10 ^ 64) ++ Txt.zfill (txt (n % 10 ^ 64)) 64 := by
  rw [show (64 : Int) = ((64 : Nat) : Int) from rfl, zfill_low (by decide) (Nat.mod_lt _ (Nat.pow_pos (by decide))), low_mod, txt_eq, txt_eq, split_low 64 n h]
  show _ = (⟨_ ++ _⟩ : Str)
  refine congrArg Str.mk ?_
  apply Array.toList_inj.mp
  simp [List.map_append]
theorem glue_cons (x : Str) : ∀ r : List Str, Str.join "" (x :: r) = x ++ Str.join "" r
  | [] => by
    show x = x ++ Str.empty
    rw [Str.append_empty]
  | y :: r => by
    show x ++ ("" : Str) ++ Str.join "" (y :: r) = _
    rw [show x ++ ("" : Str) = x from Str.append_empty x]
theorem zlen {m : Nat} (h : m < 10 ^ 64) : (Txt.zfill (txt m) 64).length = 64 := by
  rw [show (64 : Int) = ((64 : Nat) : Int) from rfl, zfill_low (by decide) h]
  show (((lowD 64 m).map Char.toNat).toArray).size = 64
  rw [List.size_toArray, List.length_map, lowD_len]
end NT

/-! ## sep.join(reversed(list)) -/
namespace JR
open PySem.Builtin PySem.Builtin.Str PySem.Spec PyProof.Rows _root_.RT L2
section
variable {prog : Program} {w : World} {A : Around} {E : Value → Shared → Prop} {s : Shared}
theorem join_rev {it l : Addr} {items : Array Value} {x : Str} {t : Tok} {ys : List Str} {Q : Value → Shared → Prop} (hh : A.handled = none) (hit : s.heap.IsRevIter it l ((items.size : Int) - 1)) (hl : s.heap.IsList l items) (hne : l ≠ it) (hn : items.size ≤ sizeLine)
    (hP : ∀ acc : Array Value, ItemsOf (fun i v => items[items.size - 1 - i]? = some v) acc items.size → StrsAre acc.toList ys) (hok : (ys.map (·.length)).sum + ys.length * x.length ≤ 16777216)
    (hq : ∀ (h' : Heap) (tk : Nat) (t' : Tok), (∀ b o, b ≠ it → s.heap.get? b = some o → h'.get? b = some o) → Q (.str (Txt.join x ys) t') { s with heap := h', toks := tk }) :
    wpAny (model prog w) A (call (.builtin "str.join") [.str x t, .ref it]) Q E s := by
  refine wpAny_call (codeAny_call_builtin F.slot_str_join.plain F.entry_str_join (F.slot_str_join.check _ _ _ _ _ _ _ _ (typeIs_str _ _ _) (F.args_str_join_2 _ _) ?_))
  rw [join_tree_other]
  refine wpAny_bind (wpAny_typeOf hit.typeIs ?_)
  show wpAny _ A.in1 ((pyIter (.ref it)).tryCatch _ >>= fun i2 => collect i2 >>= fun items => joinTail x items) _ _ s
  refine wpAny_bind (wpAny_tryCatch (wpAny_pyIter_revIter hit ?_))
  refine wpAny_bind (collect_rev (A := A.in1) hh hit hl hne hn fun h' tk acc hk hacc => ?_)
  obtain ⟨l2, hl2, ht⟩ := strsAre_values (hP acc hacc)
  subst ht
  rw [hl2]
  have hok' := joinOk_of hok
  unfold JoinOk at hok'
  rw [Bool.not_eq_true'] at hok'
  have g : Gives (joinTail x (strValues l2)) (joinMade x l2) := by
    have g0 := gives_joinTail x l2 hok'
    cases l2 with
    | nil => exact g0
    | cons p r => cases r with
      | nil => exact g0
      | cons q r' => exact g0
  exact g prog w A (wants Q E) _ (post_join l2 ⟨joinFit_length hok', fun t' k => hq h' k t' hk⟩)
end
def tJoinRev (K : PySem.W.Frag) (to te : TE) : TE := fun σ H Q => to σ H fun x H1 => (∃ a, x = .str a) ∧ te σ H1 fun v H2 => ∃ (z : Str) (a : Addr) (ys : List Str), x = .str z ∧ v = .ref a ∧ SqL K H2 a (ys.map V.str) ∧ (ys.reverse.map (·.length)).sum + ys.reverse.length * z.length ≤ 16777216 ∧ Q (.str (Txt.join z ys.reverse)) H2
section
variable {X : Cx}
theorem pe_joinRev {o e : Expr} {to te : TE} {p2 pos pos2 apos : Pos} (hc : X.calm = true) (hg2 : Gl X "reversed") (hm2 : X.mg "reversed" = none) (ho : PE X o to) (he : PE X e te)
    (hs : starEach [e] X.env = (false, eval e X.env) :: starEach [] X.env := by rfl)
    (hs2 : starEach [.Call (.Name "reversed" p2) [e] [] pos2] X.env = [(false, eval (.Call (.Name "reversed" p2) [e] [] pos2) X.env)] := by rfl)
    (hbase : attributeBase o "join" X.env (eval o X.env) = eval o X.env := by rfl) (hline : (apos.endLine == pos.line) = true := by rfl) :
    PE X (.Call (.Attribute o "join" apos) [.Call (.Name "reversed" p2) [e] [] pos2] [] pos) (tJoinRev X.K to te) := by
  refine ⟨fun pins s σ H Q I h => ?_⟩
  refine PySem.Call_method1 hbase hs2 hline (thn (ho.run pins s σ H _ I h) fun v s1 ⟨x, H1, I1, r1, q1⟩ => ?_)
  obtain ⟨⟨a, rfl⟩, q1⟩ := q1
  obtain ⟨t, rfl⟩ := _root_.id r1
  refine ⟨"str", _, F.plainAttrs_str, F.slot_str_join, F.type_str_join, typeIs_str _ _ _, (fun _ e => nomatch e), Calls.callWith_builtin rfl (Calls.evalArgs_plain (Calls.spliced_cons ?_))⟩
  refine Call_ (ld_blt I1 hg2 hm2 PyProof.Rows.boot_reversed (PyProof.Rows.callWith_type1 (args_cons (thn (he.run pins s1 σ H1 _ I1 q1) fun u s2 ⟨v, H2, I2, r2, q2⟩ => args_nil ?_) hs) hs rfl))
  obtain ⟨z, l, ys, ez, ev, hq, hz, q⟩ := q2
  cases ez
  subst ev
  obtain rfl : u = Value.ref l := r2
  obtain ⟨its, rv, p', hz2⟩ := I2.list hq
  refine call_reversed_list p'.isList (Calls.spliced_nil ?_)
  have k0 : ∀ b o, s2.heap.get? b = some o → (s2.heap.push (revObj l ((its.toArray.size : Int) - 1))).get? b = some o := fun b o e => Heap.get?_push_of_some _ e
  have I3 : Inv X pins σ H2 { s2 with heap := s2.heap.push (revObj l ((its.toArray.size : Int) - 1)) } := I2.kept (t' := s2.toks) k0
  obtain ⟨f0, f1, f2, f3, f4, f5⟩ := I2.fpOk (H' := H2) (b := s2.heap.objs.size) (Nat.le_refl _) (I2.hok.fresh (Nat.le_refl _))
  have hl := p'.isList
  obtain ⟨ol, hol, _⟩ := id hl
  have hne : l ≠ s2.heap.objs.size := Nat.ne_of_lt (Heap.lt_size hol)
  have hn : its.toArray.size ≤ sizeLine := by rw [List.size_toArray, ← rv.length]; exact hz2
  refine join_rev (s := { s2 with heap := s2.heap.push (revObj l ((its.toArray.size : Int) - 1)) }) (ys := ys.reverse) (I2.ok.hd hc) ⟨_, Heap.get?_push_size _ rfl, rfl, rfl⟩ (hl.push _) hne hn (fun acc hi => ?_) hz fun h' tk t' hk => ?_
  · have := vals_rev rv hi
    rw [← List.map_reverse] at this
    exact strs_of_vals this
  · exact ⟨.str _, H2, I3.turned (t' := tk) (fun b o hb e => hk b o hb e) f0 f1 f3 f4 f5, ⟨t', rfl⟩, q⟩
end
end JR

-- CUT
/-! ## The text of a number, by the program -/
def spNum : Sp := fun vs H Q _ => ∃ (n : Int), vs = [.int n] ∧ n.natAbs < 10 ^ 64000 ∧ ∀ H', Same H H' → Q (.str (Str.ofString (toString n))) H'
theorem num_sign (n : Int) : (if n < 0 then Str.ofString "-" else Str.ofString "") ++ NT.txt n.natAbs = Str.ofString (toString n) := by
  cases n with
  | ofNat m =>
    rw [if_neg (by show ¬ ((m : Nat) : Int) < 0; omega)]
    exact Str.empty_append _
  | negSucc m =>
    rw [if_pos (Int.negSucc_lt_zero m)]
    show Str.ofString "-" ++ Str.ofString (Nat.repr (m + 1)) = Str.ofString ("-" ++ Nat.repr (m + 1))
    rw [Str.ofString_eq_toList, Str.ofString_eq_toList, Str.ofString_eq_toList, String.toList_append, List.map_append]
    refine Str.ext' ?_
    apply Array.toList_inj.mp
    show (((String.toList "-").map Char.toNat).toArray ++ ((m + 1).repr.toList.map Char.toNat).toArray).toList = _
    rw [Array.toList_append]
open PyProof.Rows in
theorem join_le {a : Str} {ys : List Str} : (Txt.join a ys).length ≤ (ys.map (·.length)).sum + ys.length * a.length := by
  rw [TL.join_eq]
  exact StrLaws.join_length_le a ys
theorem glue_ys {m : Nat} : ∀ {ys : List Str}, (∀ y ∈ ys, y.length = m) → (ys.map (·.length)).sum = ys.length * m
  | [], _ => by simp
  | y :: r, h => by
    rw [List.map_cons, List.sum_cons, glue_ys (fun z hz => h z (List.mem_cons_of_mem _ hz)), h y List.mem_cons_self, List.length_cons, Nat.succ_mul, Nat.add_comm]
section
variable {P : Program} {w : World} {K : PySem.W.Frag} {mg : Str → Option Value} {base : Heap} {A : Ad}
theorem ok_number_text (T : Txt K mg A) : FnOk P w K mg base CX0 1 A.f_number_text A.fd_number_text ["number"] spNum := by
  refine T.d_number_text.F.ok sc_number_text (fun vs H Q E h => ?_) (fun cdv ar outer s H vs Q E hr h => ?_)
  · obtain ⟨n, rfl, _⟩ := h
    rfl
  obtain ⟨n, rfl, hn, q⟩ := h
  refine ⟨_, (pss_cons (ps_set (i := 1) sc_number_text.nd rfl (Or.inl rfl) (pe_op op_pow pe_int pe_int))
    (pss_cons (ps_set (i := 2) sc_number_text.nd rfl (Or.inl rfl) (pe_callB call_abs (by rfl) T.abs (by decide +kernel) (pa_cons (pv 0) pa_nil)))
    (pss_cons (ps_set (i := 3) sc_number_text.nd rfl (Or.inl rfl) (pe_lst pa_nil))
    (pss_cons (ps_while PassesOwn.never (pt_cmpR op_ge (pv 2) (pv 1) (nomark _)) (pss_cons (ps_asg (pe_callB call_divmodW (by rfl) T.divmod (by decide +kernel) (pa_cons (pv 2) (pa_cons (pv 1) pa_nil))) (pg_tup rfl (pgs_cons (pg_name (i := 2) sc_number_text.nd rfl (Or.inl rfl)) (pgs_cons (pg_name (i := 4) sc_number_text.nd rfl (Or.inl rfl)) pgs_nil))))
    (pss_one (ps_expr (pe_bm PySem.F.plainAttrs_list PySem.F.slot_list_append PySem.F.type_list_append mt_append (pv 3) (pa_cons (pe_m1 PySem.F.slot_str_zfill PySem.F.type_str_zfill mt_zfill (pe_callTy call_str_int (by rfl) T.str (by decide +kernel) (pa_cons (pv 4) pa_nil)) pe_int) pa_nil))))))
    (pss_cons (ps_set (i := 5) sc_number_text.nd rfl (Or.inl rfl) (pe_ifExp (pt_cmpR op_lt (pv 0) pe_int (nomark _)) pe_str pe_str))
    (pss_one (ps_ret (pe_op op_add_str (pe_op op_add_str (pv 5) (pe_callTy call_str_int (by rfl) T.str (by decide +kernel) (pa_cons (pv 2) pa_nil))) (JR.pe_joinRev rfl (by rfl) T.reversed pe_str (pv 3)))))))))), ?_⟩
  refine ⟨_, _, rfl, rfl, ⟨by decide, by decide, by decide⟩, ?_⟩
  refine ⟨_, rfl, _, rfl, ?_⟩
  refine ⟨slr rfl, fun l3 hl3 => ?_⟩
  have hN := num_sign n
  rw [abs_is]
  generalize n.natAbs = N at *
  have e64 : (10 : Int) ^ (64 : Int).toNat = ((10 ^ 64 : Nat) : Int) := by rfl
  have small : ∀ m : Nat, m < 10 ^ 64 → (((m : Nat) : Int)).natAbs.log2 < 1920 := fun m hm => PySem.Flt.log2_lt_of (by decide) (Nat.lt_of_lt_of_le (show m < 10 ^ 64 from hm) (by decide))
  have short : ∀ m : Nat, m < 10 ^ 64 → (NT.txt m).length ≤ 64 := fun m hm => by
    rw [NT.txt_eq]
    show (((Nat.toDigits 10 m).map Char.toNat).toArray).size ≤ 64
    rw [List.size_toArray, List.length_map]
    exact PyProof.Rows.digits10_le (by decide) hm
  have few : ∀ (rest len : Nat), 1 ≤ rest → rest * 10 ^ (64 * len) ≤ N → len < 1000 := fun rest len h1 h2 => by
    have h3 : 10 ^ (64 * len) < 10 ^ 64000 := Nat.lt_of_le_of_lt (Nat.le_trans (Nat.le_mul_of_pos_left _ h1) h2) hn
    have := (Nat.pow_lt_pow_iff_right (by decide)).mp h3
    omega
  refine while_by (fun σ H' => ∃ (rest : Nat) (ts : List Str) (u4 : Option V), σ = [some (.int n), some (.int ((10 ^ 64 : Nat) : Int)), some (.int ((rest : Nat) : Int)), some (.ref l3), u4, none] ∧ Same H H' ∧ H' l3 = some (.lst (ts.map V.str)) ∧ (∀ y ∈ ts, y.length = 64) ∧ rest * 10 ^ (64 * ts.length) ≤ N ∧ NT.txt N = NT.txt rest ++ Str.join "" ts.reverse ∧ ts.length < 1000)
    (fun σ _ => match σ with | [_, _, some (.int y), _, _, _] => y.toNat | _ => 0) ⟨N, [], none, rfl, Same.new hl3 _, upd_same, fun _ h => (by cases h), by simp, by show NT.txt N = NT.txt N ++ Str.empty; rw [Str.append_empty], by decide⟩ ?_ (fun σ H Q Q' m ⟨v, e, w, e2, i, j, h1, h2, c, h3, q⟩ => ⟨v, e, w, e2, i, j, h1, h2, c, h3, m _ _ q⟩)
  rintro σ H' ⟨rest, ts, u4, rfl, e, ht, h64, hle, htx, htl⟩
  refine ⟨_, rfl, _, rfl, _, _, rfl, rfl, _, rfl, ?_⟩
  refine ite2 (fun c => ?_) (fun c => ?_)
  · have hge : 10 ^ 64 ≤ rest := Int.ofNat_le.mp (of_decide_eq_true c)
    refine ⟨_, rfl, _, rfl, _, _, rfl, ⟨by decide, PyProof.noPylong_of_log2 (by decide +kernel)⟩, fun p hp => ⟨p, _, rfl, SqT.of upd_same, rfl, _, _, rfl, _, _, rfl, rfl, ?_⟩⟩
    rw [← Int.natCast_ediv, ← Int.natCast_emod]
    have ht' := Same.new hp (.tup [.int ((rest / 10 ^ 64 : Nat) : Int), .int ((rest % 10 ^ 64 : Nat) : Int)]) _ _ ht
    have hm : rest % 10 ^ 64 < 10 ^ 64 := Nat.mod_lt _ (by decide)
    have h1 : 1 ≤ rest / 10 ^ 64 := (Nat.le_div_iff_mul_le (by decide)).mpr (by omega)
    have hle2 : rest / 10 ^ 64 * 10 ^ (64 * (ts ++ [Txt.zfill (NT.txt (rest % 10 ^ 64)) 64]).length) ≤ N := by
      rw [List.length_append, show 64 * (ts.length + [Txt.zfill (NT.txt (rest % 10 ^ 64)) 64].length) = 64 + 64 * ts.length by show 64 * (ts.length + 1) = _; omega, Nat.pow_add, ← Nat.mul_assoc]
      exact Nat.le_trans (Nat.mul_le_mul_right _ (Nat.div_mul_le_self _ _)) hle
    refine ⟨_, rfl, .inl ⟨rfl, _, SqL.of ht'⟩, _, rfl, _, rfl, small _ hm, ⟨_, rfl⟩, _, _, rfl, rfl, by decide, l3, _, _, rfl, rfl, ht', sl_lt (by rw [List.length_map]; omega), ?_⟩
    refine ⟨⟨rest / 10 ^ 64, ts ++ [Txt.zfill (NT.txt (rest % 10 ^ 64)) 64], _, rfl, (e.trans (Same.new hp _)).set hl3 _, by rw [upd_same, List.map_append]; rfl, fun y hy => ?_, hle2, ?_, few _ _ h1 hle2⟩, ?_⟩
    · rcases List.mem_append.mp hy with z | z
      · exact h64 y z
      · rw [List.mem_singleton.mp z]
        exact NT.zlen hm
    · rw [List.reverse_append, htx, NT.txt_split hge]
      show _ = _ ++ Str.join "" (Txt.zfill (NT.txt (rest % 10 ^ 64)) 64 :: ts.reverse)
      rw [NT.glue_cons, Str.append_assoc]
    · show rest / 10 ^ 64 < rest
      exact Nat.div_lt_self (by omega) (by decide)
  · have hlt : rest < 10 ^ 64 := by
      refine Nat.lt_of_not_le fun z => c ?_
      exact decide_eq_true (Int.ofNat_le.mpr z)
    have hr := short rest hlt
    have hsum : (ts.reverse.map (·.length)).sum = ts.length * 64 := by
      rw [glue_ys (m := 64) fun y hy => h64 y (List.mem_reverse.mp hy), List.length_reverse]
    have e0 : (Str.ofString "").length = 0 := by decide
    have jl : (Txt.join "" ts.reverse).length ≤ 64000 := by
      have := join_le (a := "") (ys := ts.reverse)
      rw [e0, hsum] at this
      omega
    refine ⟨_, rfl, _, _, rfl, rfl, _, rfl, ?_⟩
    refine ite2 (fun c2 => ?_) (fun c2 => ?_)
    · have hneg : n < 0 := of_decide_eq_true c2
      rw [if_pos hneg] at hN
      have e1 : (Str.ofString "-").length = 1 := by decide
      refine ⟨_, rfl, _, rfl, _, rfl, small _ hlt, _, _, rfl, rfl, sl_small (by rw [e1]; show 1 + (NT.txt rest).length ≤ _; omega), ⟨_, rfl⟩, _, rfl, _, l3, ts, rfl, rfl, SqL.of ht, by rw [hsum, e0]; omega, _, _, rfl, rfl, sl_small (by show (Str.ofString "-" ++ NT.txt rest).length + _ ≤ 100000; rw [show (Str.ofString "-" ++ NT.txt rest).length = (Str.ofString "-").length + (NT.txt rest).length from Array.size_append ..]; omega), ?_⟩
      have fin := q H' e
      rw [← hN, htx, ← TL.join_eq, ← Str.append_assoc] at fin
      exact fin
    · have hneg : ¬ n < 0 := fun z => c2 (decide_eq_true z)
      rw [if_neg hneg] at hN
      refine ⟨_, rfl, _, rfl, _, rfl, small _ hlt, _, _, rfl, rfl, sl_small (by rw [e0]; show 0 + (NT.txt rest).length ≤ _; omega), ⟨_, rfl⟩, _, rfl, _, l3, ts, rfl, rfl, SqL.of ht, by rw [hsum, e0]; omega, _, _, rfl, rfl, sl_small (by show (Str.ofString "" ++ NT.txt rest).length + _ ≤ 100000; rw [show (Str.ofString "" ++ NT.txt rest).length = (Str.ofString "").length + (NT.txt rest).length from Array.size_append ..]; omega), ?_⟩
      have fin := q H' e
      rw [← hN, htx, ← TL.join_eq, ← Str.append_assoc] at fin
      exact fin
end

-- CUT2
theorem num_len (n : Int) (h : n.natAbs < 10 ^ 64000) : (Str.ofString (toString n)).length ≤ 64001 := by
  rw [← num_sign]
  have h1 : (NT.txt n.natAbs).length ≤ 64000 := by
    rw [NT.txt_eq]
    show (((Nat.toDigits 10 n.natAbs).map Char.toNat).toArray).size ≤ 64000
    rw [List.size_toArray, List.length_map]
    exact PyProof.Rows.digits10_le (by decide) h
  rw [show ∀ x y : Str, (x ++ y).length = x.length + y.length from fun x y => Array.size_append ..]
  have h2 : (if n < 0 then Str.ofString "-" else Str.ofString "").length ≤ 1 := by
    split <;> decide
  omega
def spRatioText (K : PySem.W.Frag) : Sp := fun vs H Q _ => ∃ (p : Addr) (a b : Int), vs = [.ref p] ∧ SqT K H p [.int a, .int b] ∧ a.natAbs < 10 ^ 64000 ∧ b.natAbs < 10 ^ 64000 ∧ ∀ H', Same H H' → Q (.str (if b = 1 then Str.ofString (toString a) else Str.ofString (toString a) ++ Str.ofString "/" ++ Str.ofString (toString b))) H'
section
variable {P : Program} {w : World} {K : PySem.W.Frag} {mg : Str → Option Value} {base : Heap} {A : Ad}
theorem ok_ratio_text (T : Txt K mg A) : FnOk P w K mg base CX0 2 A.f_ratio_text A.fd_ratio_text ["part"] (spRatioText K) := by
  refine T.d_ratio_text.F.ok sc_ratio_text (fun vs H Q E h => ?_) (fun cdv ar outer s H vs Q E hr h => ?_)
  · obtain ⟨p, a, b, rfl, _⟩ := h
    rfl
  obtain ⟨p, a, b, rfl, hp, ha, hb, q⟩ := h
  refine ⟨_, (pss_cons (ps_asg (pv 0) (pg_tup rfl (pgs_cons (pg_name (i := 1) sc_ratio_text.nd rfl (Or.inl rfl)) (pgs_cons (pg_name (i := 2) sc_ratio_text.nd rfl (Or.inl rfl)) pgs_nil))))
    (pss_cons (ps_if (pt_cmpR op_eq (pv 2) pe_int (nomark _)) (pss_one (ps_ret (pe_call (ok_number_text T) (hr.mono (by decide)) rfl T.d_number_text.m T.d_number_text.F.kp T.d_number_text.b .nil pass0 (pa_cons (pv 1) pa_nil)))) pss_nil)
    (pss_one (ps_ret (pe_joined (.cons (pe_fmt (pe_call (ok_number_text T) (hr.mono (by decide)) rfl T.d_number_text.m T.d_number_text.F.kp T.d_number_text.b .nil pass0 (pa_cons (pv 1) pa_nil))) (.cons pe_str (.cons (pe_fmt (pe_call (ok_number_text T) (hr.mono (by decide)) rfl T.d_number_text.m T.d_number_text.F.kp T.d_number_text.b .nil pass0 (pa_cons (pv 2) pa_nil))) .nil)))))))), ?_⟩
  refine ⟨_, rfl, p, _, rfl, hp, rfl, _, _, rfl, _, _, rfl, rfl, ?_⟩
  refine ⟨_, rfl, rfl, _, rfl, ?_⟩
  refine ite2 (fun c => ?_) (fun c => ?_)
  · have hb1 : b = 1 := by
      have := of_decide_eq_true c
      injection this
    refine ⟨_, rfl, a, rfl, ha, fun H' e => ?_⟩
    have fin := q H' e
    rw [if_pos hb1] at fin
    exact fin
  · have hb1 : b ≠ 1 := fun z => c (decide_eq_true (by rw [z]))
    have la := num_len a ha
    have lb := num_len b hb
    have l1 : (Str.ofString "/").length = 1 := by decide
    have ap : ∀ x y : Str, (x ++ y).length = x.length + y.length := fun x y => Array.size_append ..
    refine ⟨_, rfl, a, rfl, ha, fun H1 e1 => .inl ⟨_, rfl, sl_small (by omega), _, rfl, sl_small (by rw [Str.empty_append]; omega), _, rfl, sl_small (by rw [Str.empty_append, ap]; omega), _, rfl, b, rfl, hb, fun H2 e2 => .inl ⟨_, rfl, sl_small (by omega), _, rfl, (Nat.le_trans (by rw [Str.empty_append, ap, ap]; omega) (show 130000 ≤ sizeLine by decide)), ?_⟩⟩⟩
    have fin := q H2 (e1.trans e2)
    rw [if_neg hb1] at fin
    rw [Str.empty_append]
    exact fin
end

-- CUT3
section
variable {P : Program} {w : World} {K : PySem.W.Frag} {mg : Str → Option Value} {base : Heap} {A : Ad}
theorem ix0 {x : Rat} : atI (FR x) 0 = some (.int x.num) := at_of (j := 0) rfl rfl
theorem ix1 {x : Rat} : atI (FR x) 1 = some (.int ((x.den : Nat) : Int)) := at_of (j := 1) rfl rfl
/-- a fraction stands at v -/
def IsR (H : Hp) (v : V) (x : Rat) : Prop := ∃ p, v = .ref p ∧ H p = some (.tup (FR x))
theorem IsR.mono {H H' : Hp} {v : V} {x : Rat} (h : IsR H v x) (e : Same H H') : IsR H' v x := by
  obtain ⟨p, h1, h2⟩ := h
  exact ⟨p, h1, e _ _ h2⟩
def RL (H : Hp) (vs : List V) (qs : List Rat) : Prop := Paired (IsR H) vs qs
theorem RL.mono {H H' : Hp} {vs : List V} {qs : List Rat} (h : RL H vs qs) (e : Same H H') : RL H' vs qs := paired_imp (fun _ _ z => z.mono e) h
theorem paired_at1 {α β : Type} {R : α → β → Prop} : ∀ {xs : List α} {ys : List β} {i : Nat} {x : α}, Paired R xs ys → xs[i]? = some x → ∃ y, ys[i]? = some y ∧ R x y
  | _, _, _, _, .nil, e => by cases e
  | _, y :: _, 0, _, .cons r _, e => by cases e; exact ⟨y, rfl, r⟩
  | _, _, i + 1, x, .cons _ t, e => by
    obtain ⟨y, h1, h2⟩ := paired_at1 (i := i) (x := x) t (by simpa using e)
    exact ⟨y, by simpa using h1, h2⟩
def AllBd (k : Nat) (qs : List Rat) : Prop := ∀ x ∈ qs, RM.Bd k x
theorem AllBd.get {k : Nat} {qs : List Rat} (h : AllBd k qs) {i : Nat} {x : Rat} (e : qs[i]? = some x) : RM.Bd k x := h _ (List.mem_of_getElem? e)
theorem AllBd.take {k : Nat} {qs : List Rat} (h : AllBd k qs) (i : Nat) : AllBd k (qs.take i) := fun x hx => h x (List.mem_of_mem_take hx)
theorem sum_bd' {k : Nat} : ∀ (qs : List Rat) (j : Nat) (a : Rat), AllBd k qs → RM.Bd j a → RM.Bd (j + (k + 1) * qs.length) (qs.foldl (· + ·) a)
  | [], j, a, _, b => by simpa using b
  | x :: r, j, a, h, b => by
    have q := sum_bd' r (j + k + 1) (a + x) (fun y hy => h y (List.mem_cons_of_mem _ hy)) (b.add (h x List.mem_cons_self))
    refine q.mono ?_
    rw [List.length_cons, Nat.mul_add, Nat.mul_one]
    omega
theorem sum_bd {k : Nat} {qs : List Rat} (h : AllBd k qs) : RM.Bd (1 + (k + 1) * qs.length) (RM.sumR qs) := sum_bd' qs 1 0 h (RM.Bd.zero (Nat.le_refl 1))
theorem mul_bd' {k : Nat} : ∀ (qs : List Rat) (j : Nat) (a : Rat), AllBd k qs → RM.Bd j a → RM.Bd (j + k * qs.length) (qs.foldl (· * ·) a)
  | [], j, a, _, b => by simpa using b
  | x :: r, j, a, h, b => by
    have q := mul_bd' r (j + k) (a * x) (fun y hy => h y (List.mem_cons_of_mem _ hy)) (b.mul (h x List.mem_cons_self))
    refine q.mono ?_
    rw [List.length_cons, Nat.mul_add, Nat.mul_one]
    omega
theorem mul_bd {k : Nat} {qs : List Rat} (h : AllBd k qs) : RM.Bd (1 + k * qs.length) (RM.mulR qs) := mul_bd' qs 1 1 h (RM.Bd.one (Nat.le_refl 1))
theorem take_le {k i : Nat} {qs : List Rat} (hi : i ≤ qs.length) : 1 + (k + 1) * (qs.take i).length ≤ 1 + (k + 1) * qs.length := by
  rw [List.length_take]
  have := Nat.mul_le_mul_left (k + 1) (Nat.min_le_right i qs.length)
  omega
theorem take_le0 {k i : Nat} {qs : List Rat} : 1 + k * (qs.take i).length ≤ 1 + k * qs.length := by
  rw [List.length_take]
  have := Nat.mul_le_mul_left k (Nat.min_le_right i qs.length)
  omega

def spAdd : Sp := fun vs H Q _ => ∃ (v u : V) (x y : Rat) (j k : Nat), vs = [v, u] ∧ IsR H v x ∧ IsR H u y ∧ RM.Bd j x ∧ RM.Bd k y ∧ j + k + 1 ≤ 8000 ∧ NewT H Q (FR (x + y))
def spMul : Sp := fun vs H Q _ => ∃ (v u : V) (x y : Rat) (j k : Nat), vs = [v, u] ∧ IsR H v x ∧ IsR H u y ∧ RM.Bd j x ∧ RM.Bd k y ∧ j + k + 1 ≤ 8000 ∧ NewT H Q (FR (x * y))
def spNeg : Sp := fun vs H Q _ => ∃ (v : V) (x : Rat), vs = [v] ∧ IsR H v x ∧ NewT H Q (FR (-x))
def spLess : Sp := fun vs H Q _ => ∃ (v u : V) (x y : Rat) (j k : Nat), vs = [v, u] ∧ IsR H v x ∧ IsR H u y ∧ RM.Bd j x ∧ RM.Bd k y ∧ j + k + 1 ≤ 8000 ∧ Q (.bl (decide (x < y))) H
def spSum : Sp := fun vs H Q _ => ∃ (l : Addr) (us : List V) (qs : List Rat) (k : Nat), vs = [.ref l] ∧ H l = some (.lst us) ∧ RL H us qs ∧ AllBd k qs ∧ 1 + (k + 1) * qs.length + k + 1 ≤ 8000 ∧ NewT H Q (FR (RM.sumR qs))
theorem ok_add (T : Txt K mg A) : FnOk P w K mg base CX0 3 A.f_add A.fd_add ["_law_p", "_law_q"] spAdd := by
  refine T.d_add.F.ok sc_add (fun vs H Q E h => ?_) (fun cdv ar outer s H vs Q E hr h => ?_)
  · obtain ⟨v, u, x, y, j, k, rfl, _⟩ := h
    rfl
  obtain ⟨_, _, x, y, j, k, rfl, ⟨p, rfl, hp⟩, ⟨r, rfl, hq⟩, bx, bY, hz, q⟩ := h
  refine ⟨_, (pss_one (ps_ret (pe_call (ok_low T) (hr.mono (by decide)) rfl T.d_low.m T.d_low.F.kp T.d_low.b .nil pass0 (pa_cons (pe_op op_add (pe_op op_mulW (pe_ix (r := rIxT K) ix_tup (pv 0) pe_int (fun _ _ => rfl)) (pe_ix (r := rIxT K) ix_tup (pv 1) pe_int (fun _ _ => rfl))) (pe_op op_mulW (pe_ix (r := rIxT K) ix_tup (pv 1) pe_int (fun _ _ => rfl)) (pe_ix (r := rIxT K) ix_tup (pv 0) pe_int (fun _ _ => rfl)))) (pa_cons (pe_op op_mulW (pe_ix (r := rIxT K) ix_tup (pv 0) pe_int (fun _ _ => rfl)) (pe_ix (r := rIxT K) ix_tup (pv 1) pe_int (fun _ _ => rfl))) pa_nil))))), ?_⟩
  refine ⟨_, rfl, p, _, _, _, rfl, rfl, SqT.of hp, ix0, _, rfl, r, _, _, _, rfl, rfl, SqT.of hq, ix1, _, _, rfl, rfl, w_mul bx.1 bY.den (by omega), _, rfl, r, _, _, _, rfl, rfl, SqT.of hq, ix0, _, rfl, p, _, _, _, rfl, rfl, SqT.of hp, ix1, _, _, rfl, rfl, w_mul bY.1 bx.den (by omega), _, _, rfl, rfl, ?_⟩
  refine ⟨_, rfl, p, _, _, _, rfl, rfl, SqT.of hp, ix1, _, rfl, r, _, _, _, rfl, rfl, SqT.of hq, ix1, _, _, rfl, rfl, w_mul bx.den bY.den (by omega), ?_⟩
  refine ⟨x.num * y.den + y.num * x.den, x.den * y.den, rfl, RM.dd_pos x y, Nat.lt_of_lt_of_le (RM.abs_mul_lt bx.den bY.den) (RM.pow_le (by omega)), ?_⟩
  rw [RM.add_eq]
  exact q
theorem ok_mul (T : Txt K mg A) : FnOk P w K mg base CX0 3 A.f_mul A.fd_mul ["_law_p", "_law_q"] spMul := by
  refine T.d_mul.F.ok sc_mul (fun vs H Q E h => ?_) (fun cdv ar outer s H vs Q E hr h => ?_)
  · obtain ⟨v, u, x, y, j, k, rfl, _⟩ := h
    rfl
  obtain ⟨_, _, x, y, j, k, rfl, ⟨p, rfl, hp⟩, ⟨r, rfl, hq⟩, bx, bY, hz, q⟩ := h
  refine ⟨_, (pss_one (ps_ret (pe_call (ok_low T) (hr.mono (by decide)) rfl T.d_low.m T.d_low.F.kp T.d_low.b .nil pass0 (pa_cons (pe_op op_mulW (pe_ix (r := rIxT K) ix_tup (pv 0) pe_int (fun _ _ => rfl)) (pe_ix (r := rIxT K) ix_tup (pv 1) pe_int (fun _ _ => rfl))) (pa_cons (pe_op op_mulW (pe_ix (r := rIxT K) ix_tup (pv 0) pe_int (fun _ _ => rfl)) (pe_ix (r := rIxT K) ix_tup (pv 1) pe_int (fun _ _ => rfl))) pa_nil))))), ?_⟩
  refine ⟨_, rfl, p, _, _, _, rfl, rfl, SqT.of hp, ix0, _, rfl, r, _, _, _, rfl, rfl, SqT.of hq, ix0, _, _, rfl, rfl, w_mul bx.1 bY.1 (by omega), ?_⟩
  refine ⟨_, rfl, p, _, _, _, rfl, rfl, SqT.of hp, ix1, _, rfl, r, _, _, _, rfl, rfl, SqT.of hq, ix1, _, _, rfl, rfl, w_mul bx.den bY.den (by omega), ?_⟩
  refine ⟨x.num * y.num, x.den * y.den, rfl, RM.dd_pos x y, Nat.lt_of_lt_of_le (RM.abs_mul_lt bx.den bY.den) (RM.pow_le (by omega)), ?_⟩
  rw [RM.mul_eq]
  exact q
theorem ok_neg (T : Txt K mg A) : FnOk P w K mg base CX0 1 A.f_neg A.fd_neg ["_law_p"] spNeg := by
  refine T.d_neg.F.ok sc_neg (fun vs H Q E h => ?_) (fun cdv ar outer s H vs Q E hr h => ?_)
  · obtain ⟨v, x, rfl, _⟩ := h
    rfl
  obtain ⟨_, x, rfl, ⟨p, rfl, hp⟩, q⟩ := h
  refine ⟨_, (pss_one (ps_ret (pe_tup (pa_cons (pe_op op_sub pe_int (pe_ix (r := rIxT K) ix_tup (pv 0) pe_int (fun _ _ => rfl))) (pa_cons (pe_ix (r := rIxT K) ix_tup (pv 0) pe_int (fun _ _ => rfl)) pa_nil))))), ?_⟩
  refine ⟨_, rfl, p, _, _, _, rfl, rfl, SqT.of hp, ix0, _, _, rfl, rfl, _, rfl, p, _, _, _, rfl, rfl, SqT.of hp, ix1, slr rfl, fun t ht => ?_⟩
  show Q (.ref t) (upd H t (.tup [.int (0 - x.num), .int ((x.den : Nat) : Int)]))
  rw [fr_of (x := -x) (by rw [Rat.neg_num]; omega) (by rw [Rat.neg_den])]
  exact q.lay (Same.refl H) ht
theorem ok_less (T : Txt K mg A) : FnOk P w K mg base CX0 1 A.f_less A.fd_less ["_law_p", "_law_q"] spLess := by
  refine T.d_less.F.ok sc_less (fun vs H Q E h => ?_) (fun cdv ar outer s H vs Q E hr h => ?_)
  · obtain ⟨v, u, x, y, j, k, rfl, _⟩ := h
    rfl
  obtain ⟨_, _, x, y, j, k, rfl, ⟨p, rfl, hp⟩, ⟨r, rfl, hq⟩, bx, bY, hz, q⟩ := h
  refine ⟨_, (pss_one (ps_ret (pe_cmpR op_lt (pe_op op_mulW (pe_ix (r := rIxT K) ix_tup (pv 0) pe_int (fun _ _ => rfl)) (pe_ix (r := rIxT K) ix_tup (pv 1) pe_int (fun _ _ => rfl))) (pe_op op_mulW (pe_ix (r := rIxT K) ix_tup (pv 1) pe_int (fun _ _ => rfl)) (pe_ix (r := rIxT K) ix_tup (pv 0) pe_int (fun _ _ => rfl))) (nomark _)))), ?_⟩
  refine ⟨_, rfl, p, _, _, _, rfl, rfl, SqT.of hp, ix0, _, rfl, r, _, _, _, rfl, rfl, SqT.of hq, ix1, _, _, rfl, rfl, w_mul bx.1 bY.den (by omega), _, rfl, r, _, _, _, rfl, rfl, SqT.of hq, ix0, _, rfl, p, _, _, _, rfl, rfl, SqT.of hp, ix1, _, _, rfl, rfl, w_mul bY.1 bx.den (by omega), _, _, rfl, rfl, ?_⟩
  show Q (.bl (decide (x.num * ((y.den : Nat) : Int) < y.num * ((x.den : Nat) : Int)))) H
  rw [decide_eq_decide.mpr (Rat.lt_iff x y).symm]
  exact q
theorem fr0 : ([.int 0, .int 1] : List V) = FR 0 := rfl
theorem fr1 : ([.int 1, .int 1] : List V) = FR 1 := rfl
theorem ok_sum (T : Txt K mg A) : FnOk P w K mg base CX0 4 A.f_sum A.fd_sum ["_law_parts"] spSum := by
  refine T.d_sum.F.ok sc_sum (fun vs H Q E h => ?_) (fun cdv ar outer s H vs Q E hr h => ?_)
  · obtain ⟨l, us, qs, k, rfl, _⟩ := h
    rfl
  obtain ⟨l, us, qs, k, rfl, hl, hR, hB, hz, q⟩ := h
  have hlen := paired_len hR
  refine ⟨_, (pss_cons (ps_set (i := 1) sc_sum.nd rfl (Or.inl rfl) (pe_tup (pa_cons pe_int (pa_cons pe_int pa_nil))))
    (pss_cons (ps_for PassesOwn.never rfl (pi_list (pv 0)) (pg_name (i := 2) sc_sum.nd rfl (Or.inl rfl)) (pss_one (ps_set (i := 1) sc_sum.nd rfl (Or.inl rfl) (pe_call (ok_add T) (hr.mono (by decide)) rfl T.d_add.m T.d_add.F.kp T.d_add.b .nil pass0 (pa_cons (pv 1) (pa_cons (pv 2) pa_nil))))))
    (pss_one (ps_ret (pv 1))))), ?_⟩
  refine ⟨slr rfl, fun t ht => ?_⟩
  refine ⟨_, rfl, l, rfl, ⟨_, SqL.of (by rw [upd_ne (ne_of_none hl ht)]; exact hl)⟩, ?_⟩
  refine for_list (xs := us) (fun i σ H' => Same H H' ∧ ∃ (f : Addr) (u : Option V), σ = [some (.ref l), some (.ref f), u] ∧ H f = none ∧ H' f = some (.tup (FR (RM.sumR (qs.take i))))) ⟨Same.new ht _, t, none, rfl, ht, upd_same⟩ ?_ ?_ ?_
  · rintro i σ H' _ ⟨e, _⟩
    exact SqL.of (e _ _ hl)
  · rintro i x σ H' hi ⟨e, f, u, rfl, hf0, hf⟩
    obtain ⟨y, hy, hv⟩ := paired_at1 hR hi
    have hi' : i ≤ qs.length := by
      have := (List.getElem?_eq_some_iff.mp hy).1
      omega
    refine ⟨_, rfl, _, rfl, _, _, _, y, 1 + (k + 1) * qs.length, k, rfl, ⟨f, rfl, hf⟩, hv.mono e, (sum_bd (hB.take i)).mono (take_le hi'), hB.get hy, hz, fun r H2 e2 hr0 hr2 => ?_⟩
    refine ⟨e.trans e2, r, _, rfl, e.free hr0, ?_⟩
    rw [hr2, RM.take_succ hy, RM.sum_snoc]
  · rintro σ H' ⟨e, f, u, rfl, hf0, hf⟩
    rw [hlen, List.take_length] at hf
    exact ⟨_, rfl, q f H' e hf0 hf⟩
end

/-! ## The program's fractions -/
def CDivZ (_ j : Int) : Prop := j ≠ 0 ∧ j.natAbs.log2 < 9000
section
variable {X : Cx}
theorem op_fdivZ : OpR X (binaryOp .FloorDiv) (rI CDivZ fun i j => .int (i.fdiv j)) := opI fun _ _ _ _ _ _ _ hc q => PyProof.Rows.floordiv_int hc.1 q (.inl (PyProof.noPylong_of_log2 hc.2))
theorem iop_mulW : OpR X (inplaceOp .Mult) (rI CMulW fun i j => .int (i * j)) := opI fun _ _ _ _ _ _ _ hc q => PyProof.Rows.imul_int q hc.ok
/-- f(e, ..) of a def by its positional promise -/
theorem pe_callN {CX : CXT} {k : Nat} {f : Addr} {sp : Sp} {E : XK} {x : Str} {p pos : Pos} {e : Expr} {es : List Expr} {t : TA} (F : FnR X.prog X.w X.K X.mg X.base CX k f sp) (hr : Room k X.A) (hg : Gl X x) (hm : X.mg x = some (.ref f)) (hk : PySem.W.keepIn X.K (.ref f) = true) (hx : Passes CX X E)
    (ha : PA X (e :: es) t) (hdb : (x == ("__debug__" : Str)) = false := by decide) (he : starEach (e :: es) X.env = (false, eval e X.env) :: starEach es X.env := by rfl) (hpl : (backTo pos (starEach es X.env)).any (·.1) = false := by rfl) :
    PE X (.Call (.Name x p) (e :: es) [] pos) (fun σ H Q => t σ H fun vs H1 => sp vs H1 Q E) := by
  refine ⟨fun pins s σ H Q I h => ?_⟩
  refine PySem.wpAny_Call_Name_kw (ld_glob I hg hm ?_ hdb)
  refine PySem.W.callWith_K (h₀ := X.base) I.ok.mod.kin hk (thn (ha.run pos pins s σ H _ I h) fun us s1 ⟨vs, H1, I1, r, q⟩ => ⟨I1.kIn, ?_⟩) he hpl
  exact PySem.wpAny_call (run_fnR F hr hx I1 r q)
theorem pe_callN0 {CX : CXT} {k : Nat} {f : Addr} {sp : Sp} {E : XK} {x : Str} {p pos : Pos} (F : FnR X.prog X.w X.K X.mg X.base CX k f sp) (hr : Room k X.A) (hg : Gl X x) (hm : X.mg x = some (.ref f)) (hk : PySem.W.keepIn X.K (.ref f) = true) (hx : Passes CX X E)
    (hdb : (x == ("__debug__" : Str)) = false := by decide) : PE X (.Call (.Name x p) [] [] pos) (fun σ H Q => sp [] H Q E) := by
  refine ⟨fun pins s σ H Q I h => ?_⟩
  refine PySem.wpAny_Call_Name_kw (ld_glob I hg hm ?_ hdb)
  exact PySem.W.callWith_K0 I.kIn hk (PySem.wpAny_call (run_fnR F hr hx I .nil h))
end
theorem w_divZ {i j : Int} {b : Nat} (h : j ≠ 0) (hb : j.natAbs < 2 ^ b) (h9 : b ≤ 8999) : CDivZ i j :=
  ⟨h, Nat.lt_of_lt_of_le (PySem.Flt.log2_lt_of (show 0 < b + 1 by omega) (Nat.lt_of_lt_of_le hb (RM.pow_le (show b ≤ b + 1 by omega)))) (by omega)⟩
section
variable {P : Program} {w : World} {K : PySem.W.Frag} {mg : Str → Option Value} {base : Heap} {A : Ad}
def spGcdP : Sp := fun vs H Q _ => ∃ (a b : Int), vs = [.int a, .int b] ∧ Q (.int ((Int.gcd a b : Nat) : Int)) H
theorem gcd_abs (a b : Int) : Int.gcd ((a.natAbs : Nat) : Int) ((b.natAbs : Nat) : Int) = Int.gcd a b := by
  unfold Int.gcd
  rw [Int.natAbs_natCast, Int.natAbs_natCast]
theorem ok_common_divisor (T : Txt K mg A) : FnOk P w K mg base CX0 1 A.f_common_divisor A.fd_common_divisor ["one", "other"] spGcdP := by
  refine T.d_common_divisor.F.ok sc_common_divisor (fun vs H Q E h => ?_) (fun cdv ar outer s H vs Q E hr h => ?_)
  · obtain ⟨a, b, rfl, _⟩ := h
    rfl
  obtain ⟨a, b, rfl, q⟩ := h
  refine ⟨_, (pss_cons (ps_par (i := 0) (j := 1) (by rfl) sc_common_divisor.nd rfl rfl (by decide) rfl rfl (pa_cons (pe_callB call_abs (by rfl) T.abs (by decide +kernel) (pa_cons (pv 0) pa_nil)) (pa_cons (pe_callB call_abs (by rfl) T.abs (by decide +kernel) (pa_cons (pv 1) pa_nil)) pa_nil)) (by rfl))
    (pss_cons (ps_while PassesOwn.never (pt_truth (pv 1) (by intro _; rfl)) (pss_one (ps_par (i := 0) (j := 1) (by rfl) sc_common_divisor.nd rfl rfl (by decide) rfl rfl (pa_cons (pv 1) (pa_cons (pe_op op_mod (pv 0) (pv 1)) pa_nil)) (by rfl))))
    (pss_one (ps_ret (pv 0))))), ?_⟩
  refine ⟨_, rfl, _, rfl, _, rfl, _, rfl, _, _, rfl, ?_⟩
  dsimp only
  refine while_by (fun σ H' => H' = H ∧ ∃ x y : Int, σ = [some (.int x), some (.int y)] ∧ 0 ≤ x ∧ 0 ≤ y ∧ Int.gcd x y = Int.gcd a b) (fun σ _ => match σ with | [_, some (.int y)] => y.toNat | _ => 0)
    ⟨rfl, (if a < 0 then -a else a), (if b < 0 then -b else b), rfl, by rw [abs_is]; omega, by rw [abs_is]; omega, by rw [abs_is, abs_is, gcd_abs]⟩ ?_ ?_
  case refine_2 => exact fun σ H Q Q' m ⟨v, e, k, h1, h2⟩ => ⟨v, e, k, h1, m _ _ h2⟩
  rintro σ _ ⟨rfl, x, y, rfl, hx, hy, hg⟩
  refine ⟨_, rfl, (y != 0), rfl, ?_⟩
  by_cases h0 : y = 0
  · subst h0
    refine iteF ⟨_, rfl, ?_⟩
    have e : x = ((Int.gcd x 0 : Nat) : Int) := by rw [Int.gcd_zero]; omega
    rw [e, hg]
    exact q
  · have d0 : (y != 0) = true := by simp [h0]
    rw [d0]
    refine iteT ⟨_, rfl, _, rfl, _, rfl, _, _, rfl, rfl, (by show 0 < y; omega), _, _, rfl, ?_⟩
    have hm := Int.emod_nonneg x h0
    have hl := Int.emod_lt_of_pos x (show 0 < y by omega)
    refine ⟨⟨rfl, y, x % y, rfl, hy, hm, by rw [RM.gcd_step]; exact hg⟩, ?_⟩
    show (x % y).toNat < y.toNat
    omega
end

section
variable {P : Program} {w : World} {K : PySem.W.Frag} {mg : Str → Option Value} {base : Heap} {A : Ad}
def spReduced : Sp := fun vs H Q _ => ∃ (a b : Int), vs = [.int a, .int b] ∧ b ≠ 0 ∧ b.natAbs < 2 ^ 8000 ∧ NewT H Q (FR (Rat.divInt a b))
theorem ok_reduced (T : Txt K mg A) : FnOk P w K mg base CX0 2 A.f_reduced A.fd_reduced ["numerator", "denominator"] spReduced := by
  refine T.d_reduced.F.ok sc_reduced (fun vs H Q E h => ?_) (fun cdv ar outer s H vs Q E hr h => ?_)
  · obtain ⟨a, b, rfl, _⟩ := h
    rfl
  obtain ⟨a, b, rfl, hb, hz, q⟩ := h
  have g0 : 0 < ((Int.gcd a b : Nat) : Int) := RM.gcd_posi hb
  have g1 : ((Int.gcd a b : Nat) : Int).natAbs < 2 ^ 8000 := by
    refine Nat.lt_of_le_of_lt ?_ hz
    rw [RM.nat_abs]
    exact Nat.le_of_dvd (by omega) (Int.gcd_dvd_natAbs_right ..)
  refine ⟨_, (pss_cons (ps_if (pt_cmpR op_eq (pv 1) pe_int (nomark _)) (pss_one ps_never) pss_nil)
    (pss_cons (ps_set (i := 2) sc_reduced.nd rfl (Or.inl rfl) (pe_call (ok_common_divisor T) (hr.mono (by decide)) rfl T.d_common_divisor.m T.d_common_divisor.F.kp T.d_common_divisor.b .nil pass0 (pa_cons (pv 0) (pa_cons (pv 1) pa_nil))))
    (pss_cons (ps_if (pt_cmpR op_lt (pv 1) pe_int (nomark _)) (pss_one (ps_set (i := 2) sc_reduced.nd rfl (Or.inl rfl) (pe_un un_neg (pv 2)))) pss_nil)
    (pss_one (ps_ret (pe_tup (pa_cons (pe_op op_fdivZ (pv 0) (pv 2)) (pa_cons (pe_op op_fdivZ (pv 1) (pv 2)) pa_nil)))))))), ?_⟩
  refine ⟨_, rfl, rfl, _, rfl, ?_⟩
  rw [decide_eq_false (fun z => hb (by injection z) : ¬ V.int b = V.int 0)]
  refine iteF ?_
  refine ⟨_, rfl, _, rfl, a, b, rfl, ?_⟩
  dsimp only [gName]
  refine seq_key (fun σ' H' => H' = H ∧ ∃ g : Int, σ' = [some (.int a), some (.int b), some (.int g)] ∧ g ≠ 0 ∧ g.natAbs < 2 ^ 8000 ∧ a.fdiv g = (Rat.divInt a b).num ∧ b.fdiv g = (((Rat.divInt a b).den : Nat) : Int)) ?_ (fun k => ?_)
  · rintro _ _ ⟨rfl, g, rfl, hg, hg2, e1, e2⟩
    refine ⟨_, rfl, _, rfl, _, _, rfl, rfl, w_divZ hg hg2 (by decide), _, rfl, _, rfl, _, _, rfl, rfl, w_divZ hg hg2 (by decide), slr rfl, fun p hp => ?_⟩
    show Q (.ref p) (upd _ p (.tup [.int (a.fdiv g), .int (b.fdiv g)]))
    rw [e1, e2]
    exact q.lay (Same.refl _) hp
  · refine ⟨_, rfl, _, _, rfl, rfl, _, rfl, ?_⟩
    refine ite2 (fun c => ?_) (fun c => ?_)
    · have c' : b < 0 := of_decide_eq_true c
      refine ⟨_, rfl, _, rfl, ?_⟩
      exact k _ _ ⟨rfl, _, rfl, by omega, by rw [Int.natAbs_neg]; exact g1, (RM.num_neg c').symm, (RM.den_neg c').symm⟩
    · have c' : ¬ b < 0 := of_decide_eq_false (Bool.eq_false_iff.mpr c)
      refine k _ _ ⟨rfl, _, rfl, by omega, g1, ?_, ?_⟩
      · rw [RM.num_pos (by omega), Int.fdiv_eq_ediv_of_dvd (Int.gcd_dvd_left ..)]
      · rw [RM.den_pos (by omega), Int.fdiv_eq_ediv_of_dvd (Int.gcd_dvd_right ..)]

def spTotal (K : PySem.W.Frag) (tl : Bool) : Sp := fun vs H Q _ => ∃ (l : Addr) (us : List V) (qs : List Rat) (k : Nat), vs = [.ref l] ∧ H l = some (if tl then .lst us else .tup us) ∧ RL H us qs ∧ AllBd k qs ∧ 1 + (k + 1) * qs.length + k + 1 ≤ 8000 ∧ NewT H Q (FR (RM.sumR qs))
/-- one more part of the sum -/
theorem tot_step {n d : Int} {x : Rat} {g : Int} (hd : 0 < d) (hg : g = ((Int.gcd d x.den : Nat) : Int)) :
    Rat.divInt (n * (((x.den : Nat) : Int) / g) + x.num * (d / g)) (d * (((x.den : Nat) : Int) / g)) = Rat.divInt n d + x ∧ 0 < d * (((x.den : Nat) : Int) / g) ∧ 0 < g := by
  have hx := RM.den_p x
  have g0 : 0 < g := by rw [hg]; exact RM.gcd_posi (by omega)
  have d1 : g ∣ d := by rw [hg]; exact Int.gcd_dvd_left ..
  have d2 : g ∣ ((x.den : Nat) : Int) := by rw [hg]; exact Int.gcd_dvd_right ..
  refine ⟨?_, Int.mul_pos hd (Int.ediv_pos_of_pos_of_dvd hx (by omega) d2), g0⟩
  rw [RM.part_step (by omega) (by omega) d1 d2, Rat.num_divInt_den]
theorem div_lt {a b : Int} {k : Nat} (h : a.natAbs < 2 ^ k) : (a / b).natAbs < 2 ^ k := Nat.lt_of_le_of_lt (Int.natAbs_ediv_le_natAbs ..) h
/-- the body of the loop, as it is read -/
def TotInv (l : Addr) (H : Hp) (k : Nat) (qs : List Rat) (i : Nat) (σ : St) (H' : Hp) : Prop :=
  Same H H' ∧ ∃ (n d : Int) (u1 u2 u3 : Option V), σ = [some (.ref l), some (.int n), some (.int d), u1, u2, u3] ∧ 0 < d ∧ Rat.divInt n d = RM.sumR (qs.take i) ∧ n.natAbs < 2 ^ (1 + (k + 1) * i) ∧ d.natAbs < 2 ^ (1 + (k + 1) * i)
theorem ok_total2 (T : Txt K mg A) : ∀ tl : Bool, FnOk P w K mg base CX0 3 A.f_total A.fd_total ["parts"] (spTotal K tl)
  | true => by
    refine T.d_total.F.ok sc_total (fun vs H Q E h => ?_) (fun cdv ar outer s H vs Q E hr h => ?_)
    · obtain ⟨l, us, qs, k, rfl, _⟩ := h
      rfl
    obtain ⟨l, us, qs, k, rfl, hl, hR, hB, hz, q⟩ := h
    have hlen := paired_len hR
    refine ⟨_, (pss_cons (ps_asg (pe_tup (pa_cons pe_int (pa_cons pe_int pa_nil))) (pg_tup rfl (pgs_cons (pg_name (i := 1) sc_total.nd rfl (Or.inl rfl)) (pgs_cons (pg_name (i := 2) sc_total.nd rfl (Or.inl rfl)) pgs_nil))))
    (pss_cons (ps_for PassesOwn.never rfl (pi_list (pv 0)) (pg_tup rfl (pgs_cons (pg_name (i := 3) sc_total.nd rfl (Or.inl rfl)) (pgs_cons (pg_name (i := 4) sc_total.nd rfl (Or.inl rfl)) pgs_nil))) (pss_cons (ps_set (i := 5) sc_total.nd rfl (Or.inl rfl) (pe_call (ok_common_divisor T) (hr.mono (by decide)) rfl T.d_common_divisor.m T.d_common_divisor.F.kp T.d_common_divisor.b .nil pass0 (pa_cons (pv 2) (pa_cons (pv 4) pa_nil))))
    (pss_cons (ps_set (i := 1) sc_total.nd rfl (Or.inl rfl) (pe_op op_add (pe_op op_mulW (pv 1) (pe_op op_fdivW (pv 4) (pv 5))) (pe_op op_mulW (pv 3) (pe_op op_fdivW (pv 2) (pv 5)))))
    (pss_one (ps_aug (i := 2) sc_total.nd rfl (.inl rfl) (pe_op op_fdivW (pv 4) (pv 5)) iop_mulW)))))
    (pss_one (ps_ret (pe_call (ok_reduced T) (hr.mono (by decide)) rfl T.d_reduced.m T.d_reduced.F.kp T.d_reduced.b .nil pass0 (pa_cons (pv 1) (pa_cons (pv 2) pa_nil))))))), ?_⟩
    refine ⟨slr rfl, fun t ht => ⟨t, _, rfl, SqT.of upd_same, rfl, _, _, rfl, _, _, rfl, rfl, ?_⟩⟩
    have e0 : Same H (upd H t (.tup [.int 0, .int 1])) := Same.new ht _
    refine ⟨_, rfl, l, rfl, ⟨_, SqL.of (e0 _ _ hl)⟩, ?_⟩
    refine for_list (xs := us) (TotInv l H k qs) ⟨e0, 0, 1, none, none, none, rfl, by decide, rfl, by rw [Nat.mul_zero]; decide, by rw [Nat.mul_zero]; decide⟩ (fun i σ H' _ h => SqL.of (h.1 _ _ hl)) ?_ ?_
    · rintro i x σ H' hi ⟨e, n, d, u1, u2, u3, rfl, hd, hs, hn, hdd⟩
      obtain ⟨y, hy, hv⟩ := paired_at1 hR hi
      obtain ⟨f, rfl, hf⟩ := hv.mono e
      have hi' : i < qs.length := (List.getElem?_eq_some_iff.mp hy).1
      have hm : (k + 1) * i ≤ (k + 1) * qs.length := Nat.mul_le_mul_left _ (by omega)
      have hx : (k + 1) * (i + 1) = (k + 1) * i + k + 1 := by rw [Nat.mul_add]; omega
      have bY := hB.get hy
      obtain ⟨t1, t2, t3⟩ := tot_step (n := n) (x := y) hd rfl
      have t4 : ((Int.gcd d y.den : Nat) : Int).natAbs < 2 ^ 8000 := by
        refine Nat.lt_of_lt_of_le (Nat.lt_of_le_of_lt ?_ hdd) (RM.pow_le (by omega))
        rw [RM.nat_abs]
        exact Nat.le_of_dvd (by omega) (Int.gcd_dvd_natAbs_left ..)
      refine ⟨f, _, rfl, SqT.of hf, rfl, _, _, rfl, _, _, rfl, rfl, ?_⟩
      refine ⟨_, rfl, _, rfl, d, _, rfl, ?_⟩
      refine ⟨_, rfl, _, rfl, _, rfl, _, _, rfl, rfl, w_div t3 t4 (by decide), _, _, rfl, rfl, w_mul hn (div_lt bY.den) (by omega), _, rfl, _, rfl, _, rfl, _, _, rfl, rfl, w_div t3 t4 (by decide), _, _, rfl, rfl, w_mul bY.1 (div_lt hdd) (by omega), _, _, rfl, rfl, ?_⟩
      refine ⟨_, rfl, _, rfl, _, rfl, _, _, rfl, rfl, w_div t3 t4 (by decide), _, _, rfl, rfl, w_mul hdd (div_lt bY.den) (by omega), ?_⟩
      refine ⟨e, _, _, _, _, _, rfl, t2, ?_, ?_, ?_⟩
      · rw [t1, hs, RM.take_succ hy, RM.sum_snoc]
      · exact Nat.lt_of_lt_of_le (RM.abs_add_lt (RM.abs_mul_lt hn (div_lt bY.den)) (by rw [Nat.add_comm]; exact RM.abs_mul_lt bY.1 (div_lt hdd))) (RM.pow_le (by omega))
      · exact Nat.lt_of_lt_of_le (RM.abs_mul_lt hdd (div_lt bY.den)) (RM.pow_le (by omega))
    · rintro σ H' ⟨e, n, d, u1, u2, u3, rfl, hd, hs, hn, hdd⟩
      rw [hlen] at hdd
      refine ⟨_, rfl, _, rfl, n, d, rfl, by omega, Nat.lt_of_lt_of_le hdd (RM.pow_le (by omega)), ?_⟩
      rw [hs, hlen, List.take_length]
      exact fun p H2 e2 h0 h2 => q p H2 (e.trans e2) (e.free h0) h2
  | false => by
    refine T.d_total.F.ok sc_total (fun vs H Q E h => ?_) (fun cdv ar outer s H vs Q E hr h => ?_)
    · obtain ⟨l, us, qs, k, rfl, _⟩ := h
      rfl
    obtain ⟨l, us, qs, k, rfl, hl, hR, hB, hz, q⟩ := h
    have hlen := paired_len hR
    refine ⟨_, (pss_cons (ps_asg (pe_tup (pa_cons pe_int (pa_cons pe_int pa_nil))) (pg_tup rfl (pgs_cons (pg_name (i := 1) sc_total.nd rfl (Or.inl rfl)) (pgs_cons (pg_name (i := 2) sc_total.nd rfl (Or.inl rfl)) pgs_nil))))
    (pss_cons (ps_for PassesOwn.never rfl (pi_tup (pv 0)) (pg_tup rfl (pgs_cons (pg_name (i := 3) sc_total.nd rfl (Or.inl rfl)) (pgs_cons (pg_name (i := 4) sc_total.nd rfl (Or.inl rfl)) pgs_nil))) (pss_cons (ps_set (i := 5) sc_total.nd rfl (Or.inl rfl) (pe_call (ok_common_divisor T) (hr.mono (by decide)) rfl T.d_common_divisor.m T.d_common_divisor.F.kp T.d_common_divisor.b .nil pass0 (pa_cons (pv 2) (pa_cons (pv 4) pa_nil))))
    (pss_cons (ps_set (i := 1) sc_total.nd rfl (Or.inl rfl) (pe_op op_add (pe_op op_mulW (pv 1) (pe_op op_fdivW (pv 4) (pv 5))) (pe_op op_mulW (pv 3) (pe_op op_fdivW (pv 2) (pv 5)))))
    (pss_one (ps_aug (i := 2) sc_total.nd rfl (.inl rfl) (pe_op op_fdivW (pv 4) (pv 5)) iop_mulW)))))
    (pss_one (ps_ret (pe_call (ok_reduced T) (hr.mono (by decide)) rfl T.d_reduced.m T.d_reduced.F.kp T.d_reduced.b .nil pass0 (pa_cons (pv 1) (pa_cons (pv 2) pa_nil))))))), ?_⟩
    refine ⟨slr rfl, fun t ht => ⟨t, _, rfl, SqT.of upd_same, rfl, _, _, rfl, _, _, rfl, rfl, ?_⟩⟩
    have e0 : Same H (upd H t (.tup [.int 0, .int 1])) := Same.new ht _
    refine ⟨_, rfl, l, rfl, ⟨_, SqT.of (e0 _ _ hl)⟩, ?_⟩
    refine for_tup (xs := us) (TotInv l H k qs) ⟨e0, 0, 1, none, none, none, rfl, by decide, rfl, by rw [Nat.mul_zero]; decide, by rw [Nat.mul_zero]; decide⟩ (fun i σ H' _ h => SqT.of (h.1 _ _ hl)) ?_ ?_
    · rintro i x σ H' hi ⟨e, n, d, u1, u2, u3, rfl, hd, hs, hn, hdd⟩
      obtain ⟨y, hy, hv⟩ := paired_at1 hR hi
      obtain ⟨f, rfl, hf⟩ := hv.mono e
      have hi' : i < qs.length := (List.getElem?_eq_some_iff.mp hy).1
      have hm : (k + 1) * i ≤ (k + 1) * qs.length := Nat.mul_le_mul_left _ (by omega)
      have hx : (k + 1) * (i + 1) = (k + 1) * i + k + 1 := by rw [Nat.mul_add]; omega
      have bY := hB.get hy
      obtain ⟨t1, t2, t3⟩ := tot_step (n := n) (x := y) hd rfl
      have t4 : ((Int.gcd d y.den : Nat) : Int).natAbs < 2 ^ 8000 := by
        refine Nat.lt_of_lt_of_le (Nat.lt_of_le_of_lt ?_ hdd) (RM.pow_le (by omega))
        rw [RM.nat_abs]
        exact Nat.le_of_dvd (by omega) (Int.gcd_dvd_natAbs_left ..)
      refine ⟨f, _, rfl, SqT.of hf, rfl, _, _, rfl, _, _, rfl, rfl, ?_⟩
      refine ⟨_, rfl, _, rfl, d, _, rfl, ?_⟩
      refine ⟨_, rfl, _, rfl, _, rfl, _, _, rfl, rfl, w_div t3 t4 (by decide), _, _, rfl, rfl, w_mul hn (div_lt bY.den) (by omega), _, rfl, _, rfl, _, rfl, _, _, rfl, rfl, w_div t3 t4 (by decide), _, _, rfl, rfl, w_mul bY.1 (div_lt hdd) (by omega), _, _, rfl, rfl, ?_⟩
      refine ⟨_, rfl, _, rfl, _, rfl, _, _, rfl, rfl, w_div t3 t4 (by decide), _, _, rfl, rfl, w_mul hdd (div_lt bY.den) (by omega), ?_⟩
      refine ⟨e, _, _, _, _, _, rfl, t2, ?_, ?_, ?_⟩
      · rw [t1, hs, RM.take_succ hy, RM.sum_snoc]
      · exact Nat.lt_of_lt_of_le (RM.abs_add_lt (RM.abs_mul_lt hn (div_lt bY.den)) (by rw [Nat.add_comm]; exact RM.abs_mul_lt bY.1 (div_lt hdd))) (RM.pow_le (by omega))
      · exact Nat.lt_of_lt_of_le (RM.abs_mul_lt hdd (div_lt bY.den)) (RM.pow_le (by omega))
    · rintro σ H' ⟨e, n, d, u1, u2, u3, rfl, hd, hs, hn, hdd⟩
      rw [hlen] at hdd
      refine ⟨_, rfl, _, rfl, n, d, rfl, by omega, Nat.lt_of_lt_of_le hdd (RM.pow_le (by omega)), ?_⟩
      rw [hs, hlen, List.take_length]
      exact fun p H2 e2 h0 h2 => q p H2 (e.trans e2) (e.free h0) h2
theorem fnOk_ex {ι : Type} {k : Nat} {f : Addr} {fd : FuncData} {ps : List Str} {sp : ι → Sp} (F : ∀ i, FnOk P w K mg base CX0 k f fd ps (sp i)) : FnOk P w K mg base CX0 k f fd ps (fun vs H Q E => ∃ i, sp i vs H Q E) :=
  ⟨fun vs H Q E h => Exists.elim h fun i h => (F i).len vs H Q E h, fun ar outer s H args us vs Q E hr e0 hb r h => Exists.elim h fun i h => (F i).run ar outer s H args us vs Q E hr e0 hb r h⟩
theorem ok_total (T : Txt K mg A) : FnOk P w K mg base CX0 3 A.f_total A.fd_total ["parts"] (fun vs H Q E => ∃ tl, spTotal K tl vs H Q E) := fnOk_ex (ok_total2 T)
theorem ok_negative (T : Txt K mg A) : FnOk P w K mg base CX0 1 A.f_negative A.fd_negative ["part"] spNeg := by
  refine T.d_negative.F.ok sc_negative (fun vs H Q E h => ?_) (fun cdv ar outer s H vs Q E hr h => ?_)
  · obtain ⟨v, x, rfl, _⟩ := h
    rfl
  obtain ⟨_, x, rfl, ⟨p, rfl, hp⟩, q⟩ := h
  refine ⟨_, (pss_cons (ps_asg (pv 0) (pg_tup rfl (pgs_cons (pg_name (i := 1) sc_negative.nd rfl (Or.inl rfl)) (pgs_cons (pg_name (i := 2) sc_negative.nd rfl (Or.inl rfl)) pgs_nil))))
    (pss_one (ps_ret (pe_tup (pa_cons (pe_un un_neg (pv 1)) (pa_cons (pv 2) pa_nil)))))), ?_⟩
  refine ⟨_, rfl, p, _, rfl, SqT.of hp, rfl, _, _, rfl, _, _, rfl, rfl, ?_⟩
  refine ⟨_, rfl, _, rfl, _, rfl, slr rfl, fun t ht => ?_⟩
  show Q (.ref t) (upd H t (.tup [.int (-x.num), .int ((x.den : Nat) : Int)]))
  rw [fr_of (x := -x) (by rw [Rat.neg_num]) (by rw [Rat.neg_den])]
  exact q.lay (Same.refl H) ht
/-- -1, 0, 1 -/
def signR (x y : Rat) : Int := if x = y then 0 else if x < y then -1 else 1
theorem sign_swap (x y : Rat) : signR y x = 0 - signR x y := by
  unfold signR
  by_cases h : x = y
  · subst h
    rw [if_pos rfl]
    rfl
  · rw [if_neg h, if_neg (Ne.symm h)]
    by_cases h1 : x < y
    · rw [if_pos h1, if_neg (by grind)]
      rfl
    · rw [if_neg h1, if_pos (by grind)]
      rfl
theorem sign_add (x y z : Rat) : signR (x + z) (y + z) = signR x y := by
  unfold signR
  have h1 : (x + z = y + z) ↔ x = y := ⟨fun h => by grind, fun h => by rw [h]⟩
  have h2 : (x + z < y + z) ↔ x < y := Rat.add_lt_add_right
  simp only [h1, h2]
theorem sign_less (x y : Rat) : (if decide (y < x) = true then (1 : Int) else 0) - (if decide (x < y) = true then (1 : Int) else 0) = signR x y := by
  unfold signR
  by_cases h : x = y
  · subst h
    have h1 : ¬ x < x := by grind
    simp [h1]
  · rw [if_neg h]
    by_cases h1 : x < y
    · have h2 : ¬ y < x := by grind
      simp [h1, h2]
    · have h2 : y < x := by grind
      simp [h1, h2]
theorem sign_self (x : Rat) : signR x x = 0 := by
  unfold signR
  rw [if_pos rfl]
def spOrder : Sp := fun vs H Q _ => ∃ (v u : V) (x y : Rat) (j k : Nat), vs = [v, u] ∧ IsR H v x ∧ IsR H u y ∧ RM.Bd j x ∧ RM.Bd k y ∧ j + k + 1 ≤ 8000 ∧ Q (.int (signR x y)) H
theorem cross_eq (x y : Rat) : x.num * ((y.den : Nat) : Int) = y.num * ((x.den : Nat) : Int) ↔ x = y := by
  constructor
  · intro h
    rw [← Rat.num_divInt_den x, ← Rat.num_divInt_den y, ← Rat.divInt_mul_right (a := ((y.den : Nat) : Int)) (Int.ne_of_gt (RM.den_p y)), h, Int.mul_comm ((x.den : Nat) : Int), Rat.divInt_mul_right (Int.ne_of_gt (RM.den_p x))]
  · rintro rfl
    rfl
theorem ok_order (T : Txt K mg A) : FnOk P w K mg base CX0 1 A.f_order A.fd_order ["one", "other"] spOrder := by
  refine T.d_order.F.ok sc_order (fun vs H Q E h => ?_) (fun cdv ar outer s H vs Q E hr h => ?_)
  · obtain ⟨v, u, x, y, j, k, rfl, _⟩ := h
    rfl
  obtain ⟨_, _, x, y, j, k, rfl, ⟨p, rfl, hp⟩, ⟨r, rfl, hq⟩, bx, bY, hz, q⟩ := h
  refine ⟨_, (pss_cons (ps_set (i := 2) sc_order.nd rfl (Or.inl rfl) (pe_op op_mulW (pe_ix (r := rIxT K) ix_tup (pv 0) pe_int (fun _ _ => rfl)) (pe_ix (r := rIxT K) ix_tup (pv 1) pe_int (fun _ _ => rfl))))
    (pss_cons (ps_set (i := 3) sc_order.nd rfl (Or.inl rfl) (pe_op op_mulW (pe_ix (r := rIxT K) ix_tup (pv 1) pe_int (fun _ _ => rfl)) (pe_ix (r := rIxT K) ix_tup (pv 0) pe_int (fun _ _ => rfl))))
    (pss_cons (ps_if (pt_cmpR op_eq (pv 2) (pv 3) (nomark _)) (pss_one (ps_ret pe_int)) pss_nil)
    (pss_one (ps_ret (pe_ifExp (pt_cmpR op_lt (pv 2) (pv 3) (nomark _)) (pe_un un_neg pe_int) pe_int)))))), ?_⟩
  refine ⟨_, rfl, p, _, _, _, rfl, rfl, SqT.of hp, ix0, _, rfl, r, _, _, _, rfl, rfl, SqT.of hq, ix1, _, _, rfl, rfl, w_mul bx.1 bY.den (by omega), ?_⟩
  refine ⟨_, rfl, r, _, _, _, rfl, rfl, SqT.of hq, ix0, _, rfl, p, _, _, _, rfl, rfl, SqT.of hp, ix1, _, _, rfl, rfl, w_mul bY.1 bx.den (by omega), ?_⟩
  refine ⟨_, rfl, _, rfl, rfl, _, rfl, ?_⟩
  unfold signR at q
  refine ite2 (fun c => ?_) (fun c => ?_)
  · have c' : x = y := (cross_eq x y).mp (by have z := of_decide_eq_true c; injection z)
    rw [if_pos c'] at q
    exact q
  · have c' : ¬ x = y := fun z => of_decide_eq_false (Bool.eq_false_iff.mpr c) (congrArg V.int ((cross_eq x y).mpr z))
    rw [if_neg c'] at q
    refine ⟨_, rfl, _, rfl, _, _, rfl, rfl, _, rfl, ?_⟩
    refine ite2 (fun c => ?_) (fun c => ?_)
    · have c2 : x < y := (Rat.lt_iff x y).mpr (of_decide_eq_true c)
      rw [if_pos c2] at q
      exact ⟨_, rfl, q⟩
    · have c2 : ¬ x < y := fun z => of_decide_eq_false (Bool.eq_false_iff.mpr c) ((Rat.lt_iff x y).mp z)
      rw [if_neg c2] at q
      exact q
/-- the parts are given one by one -/
def spPlus : Sp := fun vs H Q _ => ∃ (qs : List Rat) (k : Nat), RL H vs qs ∧ AllBd k qs ∧ 1 + (k + 1) * qs.length + k + 1 ≤ 8000 ∧ NewT H Q (FR (RM.sumR qs))
def spTimes : Sp := fun vs H Q _ => ∃ (qs : List Rat) (k : Nat), RL H vs qs ∧ AllBd k qs ∧ 1 + (k + 1) * qs.length + k + 1 ≤ 8000 ∧ NewT H Q (FR (RM.mulR qs))
theorem fnR_star {x pv : Str} {st : Stmt} {f : Addr} {fd : FuncData} {N : List Str} {k : Nat} {sp : Sp} (D : DfS K mg x st pv f fd) (S : FnScope N [pv] (defScope st))
    (hbody : ∀ (cdv : Value) (ar : Around) (outer : List Env) (s : Shared) (H : Hp) (vs : List V) (Q : VK) (E : XK), Room k (ar.deeper (PyProof.Rows.envOfC x (defScope st) s.heap.objs.size f cdv)) → sp vs H Q E →
      ∃ t, PSs (cxOf CX0 P w K mg base N x (defScope st) f cdv ar outer s H E).nox (defBody st) t ∧ t { nx := fun _ H' => Q .non H', rt := Q } (L2.start N vs) H) :
    FnR P w K mg base CX0 (k + 1) f (fun vs H Q E => vs.length ≤ sizeLine ∧ ∀ p, H p = none → sp [.ref p] (upd H p (.tup vs)) Q E) := by
  obtain ⟨oc, od, kV, doc, pm, an, cdv, ct, osl, e, lk, hcd⟩ := D.F.ex
  have hb := D.hb
  rw [e] at lk hb
  refine FnR.imp (StX.fn_star (ps := []) (pv := pv) (sp := sp) lk hcd S StX.cxUp_none (fun us rest hl => ?_) fun ar outer s H vs Q E hr hsp => ?_) fun vs H Q E h => ⟨[], vs, rfl, rfl, h.1, h.2⟩
  · have : us = [] := List.eq_nil_of_length_eq_zero hl
    subst this
    exact hb rest
  · obtain ⟨t, h, q⟩ := hbody cdv ar outer s H vs Q E hr hsp
    exact ⟨t, h.nox, q⟩
theorem lin {n k : Nat} (h : 1 + (k + 1) * n + k + 1 ≤ 8000) : n ≤ 100000 := by
  have : n ≤ (k + 1) * n := by
    rw [Nat.succ_mul]
    omega
  omega
theorem ok_plus (T : Txt K mg A) : FnR P w K mg base CX0 4 A.f_plus spPlus := by
  refine FnR.imp (fnR_star (sp := spTotal K false) T.d_plus sc_plus fun cdv ar outer s H vs Q E hr h => ?_) fun vs H Q E h => ?_
  · obtain ⟨l, us, qs, k, rfl, hl, hR, hB, hz, q⟩ := h
    refine ⟨_, (pss_one (ps_ret (pe_call (ok_total T) (hr.mono (by decide)) rfl T.d_total.m T.d_total.F.kp T.d_total.b .nil pass0 (pa_cons (pv 0) pa_nil)))), ?_⟩
    exact ⟨_, rfl, false, l, us, qs, k, rfl, hl, hR, hB, hz, q⟩
  · obtain ⟨qs, k, hR, hB, hz, q⟩ := h
    have hlen := paired_len hR
    refine ⟨sl_small (by rw [hlen]; exact lin hz), fun p hp => ⟨p, vs, qs, k, rfl, upd_same, hR.mono (Same.new hp _), hB, hz, fun r H2 e2 h0 h2 => ?_⟩⟩
    exact q r H2 ((Same.new hp _).trans e2) ((Same.new hp _).free h0) h2
theorem ok_times (T : Txt K mg A) : FnR P w K mg base CX0 4 A.f_times spTimes := by
  refine FnR.imp (fnR_star (sp := fun vs H Q _ => ∃ (l : Addr) (us : List V) (qs : List Rat) (k : Nat), vs = [.ref l] ∧ H l = some (.tup us) ∧ RL H us qs ∧ AllBd k qs ∧ 1 + (k + 1) * qs.length + k + 1 ≤ 8000 ∧ NewT H Q (FR (RM.mulR qs))) T.d_times sc_times fun cdv ar outer s H vs Q E hr h => ?_) fun vs H Q E h => ?_
  · obtain ⟨l, us, qs, k, rfl, hl, hR, hB, hz, q⟩ := h
    have hlen := paired_len hR
    refine ⟨_, (pss_cons (ps_asg2 pe_int (pg_name (i := 1) sc_times.nd rfl (Or.inl rfl)) (pg_name (i := 2) sc_times.nd rfl (Or.inl rfl)))
    (pss_cons (ps_for PassesOwn.never rfl (pi_tup (pv 0)) (pg_tup rfl (pgs_cons (pg_name (i := 3) sc_times.nd rfl (Or.inl rfl)) (pgs_cons (pg_name (i := 4) sc_times.nd rfl (Or.inl rfl)) pgs_nil))) (pss_cons (ps_aug (i := 1) sc_times.nd rfl (.inl rfl) (pv 3) iop_mulW)
    (pss_one (ps_aug (i := 2) sc_times.nd rfl (.inl rfl) (pv 4) iop_mulW))))
    (pss_one (ps_ret (pe_call (ok_reduced T) (hr.mono (by decide)) rfl T.d_reduced.m T.d_reduced.F.kp T.d_reduced.b .nil pass0 (pa_cons (pv 1) (pa_cons (pv 2) pa_nil))))))), ?_⟩
    refine ⟨_, rfl, l, rfl, ⟨_, SqT.of hl⟩, ?_⟩
    refine for_tup (xs := us) (fun i σ H' => Same H H' ∧ ∃ (n d : Int) (u1 u2 : Option V), σ = [some (.ref l), some (.int n), some (.int d), u1, u2] ∧ 0 < d ∧ Rat.divInt n d = RM.mulR (qs.take i) ∧ n.natAbs < 2 ^ (1 + k * i) ∧ d.natAbs < 2 ^ (1 + k * i))
      ⟨Same.refl H, 1, 1, none, none, rfl, by decide, rfl, by rw [Nat.mul_zero]; decide, by rw [Nat.mul_zero]; decide⟩ (fun i σ H' _ h => SqT.of (h.1 _ _ hl)) ?_ ?_
    · rintro i x σ H' hi ⟨e, n, d, u1, u2, rfl, hd, hs, hn, hdd⟩
      obtain ⟨y, hy, hv⟩ := paired_at1 hR hi
      obtain ⟨f, rfl, hf⟩ := hv.mono e
      have hi' : i < qs.length := (List.getElem?_eq_some_iff.mp hy).1
      have hm : k * i ≤ k * qs.length := Nat.mul_le_mul_left _ (by omega)
      have hm2 : (k + 1) * qs.length = k * qs.length + qs.length := by rw [Nat.add_mul, Nat.one_mul]
      have hx : k * (i + 1) = k * i + k := by rw [Nat.mul_add, Nat.mul_one]
      have bY := hB.get hy
      refine ⟨f, _, rfl, SqT.of hf, rfl, _, _, rfl, _, _, rfl, rfl, ?_⟩
      refine ⟨_, rfl, _, rfl, _, _, rfl, rfl, w_mul hn bY.1 (by omega), ?_⟩
      refine ⟨_, rfl, _, rfl, _, _, rfl, rfl, w_mul hdd bY.den (by omega), ?_⟩
      refine ⟨e, _, _, _, _, rfl, Int.mul_pos hd (RM.den_p y), ?_, ?_, ?_⟩
      · rw [RM.take_succ hy, RM.mul_snoc, ← hs, ← Rat.divInt_mul_divInt, Rat.num_divInt_den]
      · exact Nat.lt_of_lt_of_le (RM.abs_mul_lt hn bY.1) (RM.pow_le (by omega))
      · exact Nat.lt_of_lt_of_le (RM.abs_mul_lt hdd bY.den) (RM.pow_le (by omega))
    · rintro σ H' ⟨e, n, d, u1, u2, rfl, hd, hs, hn, hdd⟩
      rw [hlen] at hdd
      have hm2 : (k + 1) * qs.length = k * qs.length + qs.length := by rw [Nat.add_mul, Nat.one_mul]
      refine ⟨_, rfl, _, rfl, n, d, rfl, by omega, Nat.lt_of_lt_of_le hdd (RM.pow_le (by omega)), ?_⟩
      rw [hs, hlen, List.take_length]
      exact fun p H2 e2 h0 h2 => q p H2 (e.trans e2) (e.free h0) h2
  · obtain ⟨qs, k, hR, hB, hz, q⟩ := h
    have hlen := paired_len hR
    refine ⟨sl_small (by rw [hlen]; exact lin hz), fun p hp => ⟨p, vs, qs, k, rfl, upd_same, hR.mono (Same.new hp _), hB, hz, fun r H2 e2 h0 h2 => ?_⟩⟩
    exact q r H2 ((Same.new hp _).trans e2) ((Same.new hp _).free h0) h2
end

-- CUT4
/-! ## Texts of fractions, taken apart -/
namespace PT
open PySem PySem.Builtin PySem.Builtin.Str PySem.StrLaws PySem.NumText
/-- the text of these signs -/
def tx (l : List Nat) : Str := ⟨l.toArray⟩
theorem tx_list (l : List Nat) : (tx l).cps.toList = l := by simp [tx]
theorem tx_len (l : List Nat) : (tx l).length = l.length := by simp [tx, Str.length]
theorem tx_app (a b : List Nat) : tx a ++ tx b = tx (a ++ b) := by
  show Str.mk (a.toArray ++ b.toArray) = Str.mk (a ++ b).toArray
  rw [List.append_toArray]
theorem sub_at (l : List Nat) (i c : Nat) : subAt (tx l) (tx [c]) i = decide (l[i]? = some c) := by
  unfold subAt
  rw [tx_len]
  have e : (tx l).cps.extract i (i + 1) = ((l.drop i).take 1).toArray := by
    show l.toArray.extract i (i + [c].length) = _
    rw [List.extract_toArray]
    simp [List.extract_eq_take_drop, List.take_drop]
  rw [show ([c] : List Nat).length = 1 from rfl, e]
  show (((l.drop i).take 1).toArray == ([c] : List Nat).toArray) = _
  rw [List.beq_toArray]
  by_cases h : i < l.length
  · rw [List.drop_eq_getElem_cons h, List.getElem?_eq_getElem h]
    show (([l[i]] : List Nat) == [c]) = _
    rw [show (([l[i]] : List Nat) == [c]) = (l[i] == c) by simp]
    by_cases g : l[i] = c
    · rw [g]
      simp
    · rw [decide_eq_false (fun z => g (Option.some.inj z))]
      simp [g]
  · rw [List.drop_eq_nil_of_le (by omega), List.getElem?_eq_none (by omega)]
    rfl
theorem at_iff (l : List Nat) (i c : Nat) : At (tx l) (tx [c]) (tx l).length i ↔ l[i]? = some c := by
  unfold At
  rw [sub_at, decide_eq_true_iff, tx_len, tx_len]
  constructor
  · exact fun h => h.2
  · intro h
    have := (List.getElem?_eq_some_iff.mp h).1
    exact ⟨by show i + 1 ≤ _; omega, h⟩
theorem part_none {l : List Nat} {c : Nat} (h : c ∉ l) : Txt.partition (tx l) (tx [c]) = (tx l, Str.empty, Str.empty) := by
  unfold Txt.partition
  rcases occ_head (tx l) (tx [c]) 1 (Nat.le_refl 1) with ⟨e, _⟩ | ⟨i, r, _, g, _⟩
  · rw [e]
  · exact absurd (List.mem_of_getElem? ((at_iff l i c).mp g)) h
theorem sub_tx (l : List Nat) (i j : Nat) : strSub (tx l) i j = tx ((l.drop i).take (j - i)) := by
  unfold strSub tx
  rw [List.extract_toArray, List.extract_eq_take_drop]
theorem part_at {a b : List Nat} {c : Nat} (h : c ∉ a) : Txt.partition (tx (a ++ c :: b)) (tx [c]) = (tx a, tx [c], tx b) := by
  unfold Txt.partition
  have here : (a ++ c :: b)[a.length]? = some c := by simp
  rcases occ_head (tx (a ++ c :: b)) (tx [c]) 1 (Nat.le_refl 1) with ⟨_, n⟩ | ⟨i, r, e, g, n⟩
  · exact absurd ((at_iff _ _ c).mpr here) (n _)
  · have hi : i = a.length := by
      have g' := (at_iff _ _ c).mp g
      rcases Nat.lt_trichotomy i a.length with z | z | z
      · rw [List.getElem?_append_left z] at g'
        exact absurd (List.mem_of_getElem? g') h
      · exact z
      · exact absurd ((at_iff _ _ c).mpr here) (n _ z)
    rw [e]
    subst hi
    show (strSub _ 0 _, _, strSub _ (_ + (tx [c]).length) _) = _
    rw [sub_tx, sub_tx, tx_len, tx_len]
    congr 1
    · congr 1
      simp
    · congr 2
      rw [show a.length + [c].length = (a ++ [c]).length by simp, show a ++ c :: b = (a ++ [c]) ++ b by simp, List.drop_left']
      · rw [List.take_of_length_le (by simp; omega)]
      · rfl
/-- the digits of a number, the signs of an integer -/
def dg (m : Nat) : List Nat := (Nat.toDigits 10 m).map Char.toNat
def sg (n : Int) : List Nat := if n < 0 then 45 :: dg n.natAbs else dg n.natAbs
theorem dg_all (m : Nat) : AllDigits (dg m) := by
  intro c hc
  obtain ⟨ch, hch, e⟩ := List.mem_map.mp hc
  have r := PyProof.Rows.digit_range (Nat.isDigit_of_mem_toDigits (by decide) (by decide) hch)
  rw [← e]
  exact r
theorem dg_ne (m : Nat) : dg m ≠ [] := by
  intro e
  have h := toDigits_len_ge 10 m
  rw [List.map_eq_nil_iff.mp e] at h
  exact absurd h (by decide)
theorem dg_val (m : Nat) : digitsVal (dg m) = m := PySem.W.KIN.val_back m
theorem dg_len {m k : Nat} (hk : 0 < k) (h : m < 10 ^ k) : (dg m).length ≤ k := by
  unfold dg
  rw [List.length_map]
  exact PyProof.Rows.digits10_le hk h
theorem num_tx (n : Int) : Str.ofString (toString n) = tx (sg n) := by
  rw [← num_sign, NT.txt_eq]
  unfold sg
  by_cases h : n < 0
  · rw [if_pos h, if_pos h]
    exact tx_app [45] _
  · rw [if_neg h, if_neg h]
    exact tx_app [] _
theorem sg_len {n : Int} {k : Nat} (hk : 0 < k) (h : n.natAbs < 10 ^ k) : (sg n).length ≤ k + 1 := by
  unfold sg
  have := dg_len hk h
  split
  · show _ + 1 ≤ _
    omega
  · omega
theorem reads {n : Int} (h : (sg n).length ≤ 4300) : intText? (tx (sg n)) = some n := by
  by_cases c : n < 0
  · have e : sg n = 45 :: dg n.natAbs := if_pos c
    rw [intText_neg (x := tx (sg n)) (cs := dg n.natAbs) (by rw [tx_list]; exact e) (dg_all _) (dg_ne _) (by rw [tx_len]; exact h), dg_val]
    congr 1
    omega
  · have e : sg n = dg n.natAbs := if_neg c
    rw [intText_digits (x := tx (sg n)) (by rw [tx_list, e]; exact dg_all _) (by rw [tx_list, e]; exact dg_ne _) (by rw [tx_len]; exact h), tx_list, e, dg_val]
    congr 1
    omega
theorem no_slash (n : Int) : 47 ∉ sg n := by
  unfold sg
  intro h
  split at h
  · rcases List.mem_cons.mp h with z | z
    · cases z
    · have := dg_all _ _ z
      omega
  · have := dg_all _ _ h
    omega
theorem unsigned (n : Int) : Txt.removeprefix (tx (sg n)) (tx [45]) = tx (dg n.natAbs) := by
  rw [removeprefix_eq, sub_at, tx_list, tx_len, tx_len]
  unfold sg
  by_cases c : n < 0
  · rw [if_pos c, decide_eq_true (show 0 + [45].length ≤ (45 :: dg n.natAbs).length by simp), decide_eq_true (show (45 :: dg n.natAbs)[0]? = some 45 from rfl)]
    show tx (((45 :: dg n.natAbs).drop 1).take _) = _
    rw [List.drop_one, List.tail_cons, List.take_of_length_le (by simp)]
  · rw [if_neg c]
    rw [decide_eq_false (p := (dg n.natAbs)[0]? = some 45) (fun z => by
      have := dg_all _ _ (List.mem_of_getElem? z)
      omega), Bool.and_false]
    rfl
/-- a text of digits, of at most thirty -/
def digP (t : Str) : Bool := Txt.isascii t && (Txt.isdigit t && decide (((t.length : Nat) : Int) ≤ 30))
theorem dig_ascii : ∀ c, c < 128 → Unicode.isDigit c = decide (48 ≤ c ∧ c ≤ 57) := by decide +kernel
theorem dg_good {m : Nat} (h : m < 10 ^ 30) : digP (tx (dg m)) = true := by
  unfold digP
  have h1 : Txt.isascii (tx (dg m)) = true := by
    unfold Txt.isascii
    rw [← Array.all_toList, tx_list, List.all_eq_true]
    intro c hc
    have := dg_all _ _ hc
    exact decide_eq_true (by omega)
  have h2 : Txt.isdigit (tx (dg m)) = true := by
    unfold Txt.isdigit
    rw [← Array.all_toList, tx_list, tx_len]
    have h3 : 0 < (dg m).length := List.length_pos_iff.mpr (dg_ne m)
    rw [decide_eq_true h3, Bool.true_and, List.all_eq_true]
    intro c hc
    have := dg_all _ _ hc
    rw [dig_ascii c (by omega)]
    exact decide_eq_true this
  rw [h1, h2, tx_len]
  exact decide_eq_true (by have := dg_len (by decide) h; omega)
/-- the text of a fraction -/
def rt (x : Rat) : List Nat := if x.den = 1 then sg x.num else sg x.num ++ 47 :: sg ((x.den : Nat) : Int)
theorem rt_tx (x : Rat) : (if ((x.den : Nat) : Int) = 1 then Str.ofString (toString x.num) else Str.ofString (toString x.num) ++ Str.ofString "/" ++ Str.ofString (toString ((x.den : Nat) : Int))) = tx (rt x) := by
  unfold rt
  by_cases h : x.den = 1
  · rw [if_pos h, if_pos (by omega), num_tx]
  · rw [if_neg h, if_neg (by omega), num_tx, num_tx]
    show tx _ ++ tx [47] ++ tx _ = _
    rw [tx_app, tx_app, List.append_assoc]
    rfl
end PT

-- CUT5
def spTextA (f : Str → Bool) : Sp := fun vs H Q _ => ∃ t : Str, vs = [.str t] ∧ t.length ≤ 50000 ∧ Q (.bl (f t)) H
section
variable {P : Program} {w : World} {K : PySem.W.Frag} {mg : Str → Option Value} {base : Heap} {A : Ad}
theorem ok_is_digits (T : Txt K mg A) : FnOk P w K mg base CX0 1 A.f_is_digits A.fd_is_digits ["text"] (spTextA PT.digP) := by
  refine T.d_is_digits.F.ok sc_is_digits (fun vs H Q E h => ?_) (fun cdv ar outer s H vs Q E hr h => ?_)
  · obtain ⟨t, rfl, _⟩ := h
    rfl
  obtain ⟨t, rfl, hl, q⟩ := h
  refine ⟨_, (pss_one (ps_ret (pe_and (pe_m0 PySem.F.slot_str_isascii PySem.F.type_str_isascii mt_isascii (pv 0)) (pe_and (pe_m0 PySem.F.slot_str_isdigit PySem.F.type_str_isdigit mt_isdigit (pv 0)) (pe_one (pe_cmpR op_le (pe_callB call_len_str (by rfl) T.len (by decide +kernel) (pa_cons (pv 0) pa_nil)) (pe_glob (v := .int 30) rfl T.MOST_DIGITS.choose_spec ⟨_, rfl⟩) (nomark _))))))), ?_⟩
  unfold PT.digP at q
  refine ⟨_, rfl, ⟨_, rfl⟩, t, rfl, rfl, trivial, _, rfl, ?_⟩
  cases e1 : Txt.isascii t
  · rw [e1] at q
    exact iteF q
  rw [e1] at q
  refine iteT ⟨_, rfl, ⟨_, rfl⟩, t, rfl, rfl, trivial, _, rfl, ?_⟩
  cases e2 : Txt.isdigit t
  · rw [e2] at q
    exact iteF q
  rw [e2] at q
  exact iteT ⟨_, rfl, t, rfl, sl_small (Nat.le_trans hl (by decide)), _, _, rfl, rfl, q⟩
end

def spParse (K : PySem.W.Frag) : Sp := fun vs H Q _ => ∃ (x : Rat), vs = [.str (PT.tx (PT.rt x))] ∧ x.num.natAbs < 10 ^ 30 ∧ x.den < 10 ^ 30 ∧ NewT H Q (FR x)
section
variable {P : Program} {w : World} {K : PySem.W.Frag} {mg : Str → Option Value} {base : Heap} {A : Ad}
theorem ok_parse_ratio (T : Txt K mg A) : FnOk P w K mg base CX0 3 A.f_parse_ratio A.fd_parse_ratio ["text"] (spParse K) := by
  refine T.d_parse_ratio.F.ok sc_parse_ratio (fun vs H Q E h => ?_) (fun cdv ar outer s H vs Q E hr h => ?_)
  · obtain ⟨x, rfl, _⟩ := h
    rfl
  obtain ⟨x, rfl, hn, hd, q⟩ := h
  refine ⟨_, (pss_cons (ps_asg (pe_partition (pv 0) pe_str) (pg_tup rfl (pgs_cons (pg_name (i := 1) sc_parse_ratio.nd rfl (Or.inl rfl)) (pgs_cons (pg_name (i := 2) sc_parse_ratio.nd rfl (Or.inl rfl)) (pgs_cons (pg_name (i := 3) sc_parse_ratio.nd rfl (Or.inl rfl)) pgs_nil)))))
    (pss_cons (ps_if (pt_not (pt_truth (pv 2) (by intro _; rfl))) (pss_one (ps_set (i := 3) sc_parse_ratio.nd rfl (Or.inl rfl) pe_str)) pss_nil)
    (pss_cons (ps_if (PW.pt (pw_or (pt_not (pt_truth (pe_call (ok_is_digits T) (hr.mono (by decide)) rfl T.d_is_digits.m T.d_is_digits.F.kp T.d_is_digits.b .nil pass0 (pa_cons (pe_m1 PySem.F.slot_str_removeprefix PySem.F.type_str_removeprefix mt_removeprefix (pv 1) pe_str) pa_nil)) (by intro _; rfl))) (pw_or1 (pt_not (pt_truth (pe_call (ok_is_digits T) (hr.mono (by decide)) rfl T.d_is_digits.m T.d_is_digits.F.kp T.d_is_digits.b .nil pass0 (pa_cons (pv 3) pa_nil)) (by intro _; rfl)))))) (pss_one ps_never) pss_nil)
    (pss_cons (ps_set (i := 4) sc_parse_ratio.nd rfl (Or.inl rfl) (pe_call (ok_reduced T) (hr.mono (by decide)) rfl T.d_reduced.m T.d_reduced.F.kp T.d_reduced.b .nil pass0 (pa_cons (pe_callTy call_int_str (by rfl) T.int (by decide +kernel) (pa_cons (pv 1) pa_nil)) (pa_cons (pe_callTy call_int_str (by rfl) T.int (by decide +kernel) (pa_cons (pv 3) pa_nil)) pa_nil))))
    (pss_cons (ps_if (pt_cmpR op_ne (pe_call (ok_ratio_text T) (hr.mono (by decide)) rfl T.d_ratio_text.m T.d_ratio_text.F.kp T.d_ratio_text.b .nil pass0 (pa_cons (pv 4) pa_nil)) (pv 0) (nomark _)) (pss_one ps_never) pss_nil)
    (pss_one (ps_ret (pv 4)))))))), ?_⟩
  have hnl : (PT.sg x.num).length ≤ 31 := PT.sg_len (by decide) hn
  have hdl : (PT.sg ((x.den : Nat) : Int)).length ≤ 31 := PT.sg_len (by decide) (by omega)
  have dsg : ∀ m : Nat, PT.sg ((m : Nat) : Int) = PT.dg m := fun m => by
    unfold PT.sg
    rw [if_neg (by omega), Int.natAbs_natCast]
  have big : (10 : Nat) ^ 30 ≤ 10 ^ 64000 := Nat.pow_le_pow_right (by decide) (by decide)
  have sml : (10 : Nat) ^ 30 ≤ 2 ^ 8000 := Nat.le_trans (by decide : (10 : Nat) ^ 30 ≤ 2 ^ 100) (RM.pow_le (by decide))
  have t1 : Str.ofString "/" = PT.tx [47] := by decide
  have t2 : Str.ofString "-" = PT.tx [45] := by decide
  have t3 : Str.ofString "1" = PT.tx (PT.dg 1) := by decide
  have good : PT.digP (Txt.removeprefix (PT.tx (PT.sg x.num)) (Str.ofString "-")) = true := by
    rw [t2, PT.unsigned]
    exact PT.dg_good hn
  have dpos : ((x.den : Nat) : Int) ≠ 0 := by
    have := x.den_pos
    omega
  have fin : ∀ H1, Same H H1 → ∀ p, H1 p = some (.tup (FR x)) → H p = none → Q (.ref p) H1 := fun H1 e p hp h0 => q p H1 e h0 hp
  by_cases h1 : x.den = 1
  · have e : PT.rt x = PT.sg x.num := if_pos h1
    have eP : Txt.partition (PT.tx (PT.rt x)) (Str.ofString "/") = (PT.tx (PT.sg x.num), Str.empty, Str.empty) := by
      rw [e, t1]
      exact PT.part_none (PT.no_slash _)
    refine ⟨_, rfl, ⟨_, rfl⟩, _, _, rfl, rfl, rfl, sl_small (by rw [PT.tx_len, e]; omega), fun p hp => ⟨p, _, rfl, SqT.of upd_same, rfl, _, _, rfl, _, _, rfl, _, _, rfl, rfl, ?_⟩⟩
    rw [eP]
    have s1 := Same.new hp (.tup [V.str (PT.tx (PT.sg x.num)), V.str Str.empty, V.str Str.empty])
    generalize upd H p _ = H1 at s1
    have one : PT.digP (Str.ofString "1") = true := by
      rw [t3]
      exact PT.dg_good (by decide)
    refine ⟨_, rfl, _, ⟨by show Str.empty.length ≤ _; decide, rfl⟩, iteT ?_⟩
    refine ⟨_, rfl, ⟨_, rfl⟩, _, _, rfl, rfl, sl_small (by show (PT.tx _).length ≤ _; rw [PT.tx_len]; omega), _, rfl, by rw [t2, PT.unsigned, PT.tx_len]; have := PT.dg_len (by decide) hn; omega, _, rfl, ?_⟩
    rw [good]
    refine iteF ⟨_, rfl, _, rfl, by decide, _, rfl, ?_⟩
    rw [one]
    refine iteF ?_
    refine ⟨_, rfl, _, x.num, rfl, PT.reads (by omega), by show (PT.tx _).length ≤ _; rw [PT.tx_len]; omega, _, rfl, _, 1, rfl, by decide +kernel, by decide, _, _, rfl, by decide, Nat.lt_of_lt_of_le (by decide) sml, fun r H2 s2 r0 hr2 => ?_⟩
    have ex : Rat.divInt x.num 1 = x := by
      rw [show (1 : Int) = ((x.den : Nat) : Int) by omega]
      exact Rat.num_divInt_den x
    rw [ex] at hr2
    refine ⟨_, rfl, r, _, _, rfl, SqT.of hr2, by omega, by omega, fun H3 s3 => ?_⟩
    refine ⟨_, rfl, rfl, _, rfl, ?_⟩
    rw [PT.rt_tx, decide_eq_true rfl]
    refine iteF ⟨_, rfl, ?_⟩
    exact fin H3 ((s1.trans s2).trans s3) r (s3 _ _ hr2) (s1.free r0)
  · have e : PT.rt x = PT.sg x.num ++ 47 :: PT.sg ((x.den : Nat) : Int) := if_neg h1
    have el : (PT.rt x).length ≤ 63 := by
      rw [e, List.length_append, List.length_cons]
      omega
    have eP : Txt.partition (PT.tx (PT.rt x)) (Str.ofString "/") = (PT.tx (PT.sg x.num), Str.ofString "/", PT.tx (PT.sg ((x.den : Nat) : Int))) := by
      rw [e, t1]
      exact PT.part_at (PT.no_slash _)
    refine ⟨_, rfl, ⟨_, rfl⟩, _, _, rfl, rfl, rfl, sl_small (by rw [PT.tx_len]; omega), fun p hp => ⟨p, _, rfl, SqT.of upd_same, rfl, _, _, rfl, _, _, rfl, _, _, rfl, rfl, ?_⟩⟩
    rw [eP]
    have s1 := Same.new hp (.tup [V.str (PT.tx (PT.sg x.num)), V.str (Str.ofString "/"), V.str (PT.tx (PT.sg ((x.den : Nat) : Int)))])
    generalize upd H p _ = H1 at s1
    have dgood : PT.digP (PT.tx (PT.sg ((x.den : Nat) : Int))) = true := by
      rw [dsg]
      exact PT.dg_good hd
    refine ⟨_, rfl, _, ⟨by show (Str.ofString "/").length ≤ _; decide, rfl⟩, iteF ?_⟩
    refine ⟨_, rfl, ⟨_, rfl⟩, _, _, rfl, rfl, sl_small (by show (PT.tx _).length ≤ _; rw [PT.tx_len]; omega), _, rfl, by rw [t2, PT.unsigned, PT.tx_len]; have := PT.dg_len (by decide) hn; omega, _, rfl, ?_⟩
    rw [good]
    refine iteF ⟨_, rfl, _, rfl, by show (PT.tx _).length ≤ _; rw [PT.tx_len]; omega, _, rfl, ?_⟩
    rw [dgood]
    refine iteF ?_
    refine ⟨_, rfl, _, x.num, rfl, PT.reads (by omega), by show (PT.tx _).length ≤ _; rw [PT.tx_len]; omega, _, rfl, _, ((x.den : Nat) : Int), rfl, PT.reads (by omega), by show (PT.tx _).length ≤ _; rw [PT.tx_len]; omega, _, _, rfl, dpos, Nat.lt_of_lt_of_le (by omega) sml, fun r H2 s2 r0 hr2 => ?_⟩
    rw [Rat.num_divInt_den] at hr2
    refine ⟨_, rfl, r, _, _, rfl, SqT.of hr2, by omega, by omega, fun H3 s3 => ?_⟩
    refine ⟨_, rfl, rfl, _, rfl, ?_⟩
    rw [PT.rt_tx, decide_eq_true rfl]
    refine iteF ⟨_, rfl, ?_⟩
    exact fin H3 ((s1.trans s2).trans s3) r (s3 _ _ hr2) (s1.free r0)
end

-- CUT6
def spNumber : Sp := fun vs H Q _ => ∃ n : Int, vs = [.int n] ∧ Q (.bl true) H
/-- a fraction in lowest terms -/
def frP : List Int → Bool
  | [a, b] => decide (0 < b) && decide (Int.gcd a b = 1)
  | _ => false
def spIsFr : Sp := fun vs H Q _ => ∃ (p : Addr) (xs : List Int), vs = [.ref p] ∧ H p = some (.tup (xs.map V.int)) ∧ xs.length ≤ 100 ∧ ∀ H', Same H H' → Q (.bl (frP xs)) H'
section
variable {P : Program} {w : World} {K : PySem.W.Frag} {mg : Str → Option Value} {base : Heap} {A : Ad}
theorem ok_is_number (T : Txt K mg A) : FnOk P w K mg base CX0 1 A.f_is_number A.fd_is_number ["value"] spNumber := by
  refine T.d_is_number.F.ok sc_is_number (fun vs H Q E h => ?_) (fun cdv ar outer s H vs Q E hr h => ?_)
  · obtain ⟨n, rfl, _⟩ := h
    rfl
  obtain ⟨n, rfl, q⟩ := h
  refine ⟨_, (pss_one (ps_ret (pe_and (pe_callB (r := rIsi K) call_isi (by rfl) T.isinstance (by decide +kernel) (pa_cons (pv 0) (pa_cons (pe_bltn (v := .ty "int") (u := .type "int") (by rfl) T.int (by decide +kernel) rfl) pa_nil))) (pe_one (pe_not (pe_callB (r := rIsi K) call_isi (by rfl) T.isinstance (by decide +kernel) (pa_cons (pv 0) (pa_cons (pe_bltn (v := .ty "bool") (u := .type "bool") (by rfl) T.bool (by decide +kernel) rfl) pa_nil)))))))), ?_⟩
  have ty : ∀ H, TyX K H (.int n) (.type "int") := fun _ => .base (.int n)
  refine ⟨_, rfl, _, _, _, _, _, rfl, .ty _, ty _, kit_ty (by decide +kernel : kitB "int" "int" = some true), _, rfl, iteT ?_⟩
  exact ⟨_, rfl, _, _, _, _, _, rfl, .ty _, ty _, kit_ty (by decide +kernel : kitB "int" "bool" = some false), _, rfl, q⟩
theorem ok_is_fraction (T : Txt K mg A) : FnOk P w K mg base CX0 3 A.f_is_fraction A.fd_is_fraction ["value"] spIsFr := by
  refine T.d_is_fraction.F.ok sc_is_fraction (fun vs H Q E h => ?_) (fun cdv ar outer s H vs Q E hr h => ?_)
  · obtain ⟨p, xs, rfl, _⟩ := h
    rfl
  obtain ⟨p, xs, rfl, hp, hl, q⟩ := h
  have hlen : (xs.map V.int).length = xs.length := List.length_map ..
  refine ⟨_, (pss_cons (ps_if (PW.pt (pw_or (pt_cmpR op_ne (pe_callB (r := rLenK K) call_len_seq (by rfl) T.len (by decide +kernel) (pa_cons (pv 0) pa_nil)) pe_int (nomark _)) (pw_or1 (pt_not (pt_val (pe_callB (r := rAll K) (cr_all rfl) (by rfl) T.all (by decide +kernel) (pa_cons (pe_lc (own := [("item", 3)]) (g := gName 3) (tt := tYes) rfl sc_is_fraction.nd (pi_tup (pv 0)) (blkOk_by (own := [("item", 3)]) (N := ["value", "numerator", "denominator", "item"]) (sc := defScope s_is_fraction) (by decide +kernel)) (fun _ _ _ _ _ => (pg_name (i := 3) sc_is_fraction.nd rfl (Or.inl rfl))) (fun _ _ _ _ _ => pts_nil) (fun _ _ _ _ _ => (pe_call (ok_is_number T) (hr.mono (by decide)) rfl T.d_is_number.m T.d_is_number.F.kp T.d_is_number.b .nil pass0 (pa_cons (pv 3) pa_nil)))) pa_nil))))))) (pss_one (ps_ret pe_bl)) pss_nil)
    (pss_cons (ps_asg (pv 0) (pg_tup rfl (pgs_cons (pg_name (i := 1) sc_is_fraction.nd rfl (Or.inl rfl)) (pgs_cons (pg_name (i := 2) sc_is_fraction.nd rfl (Or.inl rfl)) pgs_nil))))
    (pss_one (ps_ret (pe_and (pe_cmpR op_gt (pv 2) pe_int (nomark _)) (pe_one (pe_cmpR op_eq (pe_call (ok_common_divisor T) (hr.mono (by decide)) rfl T.d_common_divisor.m T.d_common_divisor.F.kp T.d_common_divisor.b .nil pass0 (pa_cons (pv 1) (pa_cons (pv 2) pa_nil))) pe_int (nomark _)))))))), ?_⟩
  refine ⟨_, rfl, p, _, rfl, .inr (SqT.of hp), rfl, _, rfl, ?_⟩
  rw [hlen]
  by_cases h2 : xs.length = 2
  · have d2 : decide (V.int ((xs.length : Nat) : Int) = V.int (2 : Int)) = true := decide_eq_true (by rw [h2]; rfl)
    rw [d2]
    refine iteF ?_
    refine ⟨_, rfl, p, rfl, ⟨_, SqT.of hp⟩, fun D hD => ?_⟩
    refine lc_tup (K := K) (xs := xs.map V.int) (fun i H' => Same H H' ∧ H' D = some (.lst (List.replicate i (V.bl true)))) ⟨Same.new hD _, upd_same⟩ (fun i H' _ h => SqT.of (h.1 _ _ hp)) ?_ ?_
    · rintro i x H' hi ⟨e, hD'⟩
      obtain ⟨u, rfl⟩ := int_at hi
      have : i < (xs.map V.int).length := (List.getElem?_eq_some_iff.mp hi).1
      refine ⟨rfl, ⟨_, rfl, u, rfl, _, hD', by rw [List.length_replicate]; exact sl_lt (by omega), e.set hD _, ?_⟩⟩
      rw [upd_same, List.replicate_succ']
    rintro H1 ⟨e, hD'⟩
    rw [hlen, h2] at hD'
    refine ⟨D, List.replicate 2 true, rfl, SqL.of (by rw [hD']; rfl), _, rfl, iteF ?_⟩
    match xs, hp, q, h2 with
    | [a, b], hp, q, _ =>
      refine ⟨_, rfl, p, _, rfl, SqT.of (e _ _ hp), rfl, _, _, rfl, _, _, rfl, rfl, ?_⟩
      have q := q H1 e
      refine ⟨_, rfl, _, _, rfl, rfl, _, rfl, ?_⟩
      have gq : decide (V.int ((Int.gcd a b : Nat) : Int) = V.int (1 : Int)) = decide (Int.gcd a b = 1) := decide_eq_decide.mpr ⟨fun z => by injection z with z; omega, fun z => by rw [z]; rfl⟩
      have q1 : Q (.bl (decide (0 < b) && decide (Int.gcd a b = 1))) H1 := q
      refine ite2 (fun c => ?_) (fun c => ?_)
      · rw [c, Bool.true_and] at q1
        refine ⟨_, rfl, _, rfl, a, b, rfl, rfl, ?_⟩
        rw [gq]
        exact q1
      · rw [Bool.eq_false_iff.mpr c, Bool.false_and] at q1
        exact q1
  · have d2 : decide (V.int ((xs.length : Nat) : Int) = V.int (2 : Int)) = false := decide_eq_false (fun z => h2 (by injection z with z; omega))
    rw [d2]
    have e : frP xs = false := by
      match xs, h2 with
      | [], _ => rfl
      | [_], _ => rfl
      | [_, _], h2 => exact absurd rfl h2
      | _ :: _ :: _ :: _, _ => rfl
    have q1 := q H (Same.refl H)
    rw [e] at q1
    exact iteT (iteT q1)
end

-- CUT7
def spLRT : Sp := fun vs H Q _ => ∃ (p : Addr) (x : Rat), vs = [.ref p] ∧ H p = some (.tup (FR x)) ∧ x.num.natAbs < 10 ^ 30 ∧ x.den < 10 ^ 30 ∧ Q (.str (PT.tx (PT.rt x))) H
def spLong : Sp := fun vs H Q _ => ∃ (b l : Addr), vs = [.ref b] ∧ Bag H b l ∧ ∀ (r : Int) (H' : Hp), 0 ≤ r → r < 10 ^ 30 → Apart b H H' → Bag H' b l → Q (.int r) H'
theorem log_small {m : Nat} (h : m < 10 ^ 30) : m.log2 < 1920 := PySem.Flt.log2_lt_of (by decide) (Nat.lt_of_lt_of_le h (by decide))
section
variable {P : Program} {w : World} {K : PySem.W.Frag} {mg : Str → Option Value} {base : Heap} {A : Ad}
theorem ok_law_ratio_text (T : Txt K mg A) : FnOk P w K mg base CX0 1 A.f_law_ratio_text A.fd_law_ratio_text ["_law_part"] spLRT := by
  refine T.d_law_ratio_text.F.ok sc_law_ratio_text (fun vs H Q E h => ?_) (fun cdv ar outer s H vs Q E hr h => ?_)
  · obtain ⟨p, x, rfl, _⟩ := h
    rfl
  obtain ⟨p, x, rfl, hp, hn, hd, q⟩ := h
  refine ⟨_, (pss_one (ps_ret (pe_op op_add_str (pe_callTy call_str_int (by rfl) T.str (by decide +kernel) (pa_cons (pe_ix (r := rIxT K) ix_tup (pv 0) pe_int (fun _ _ => rfl)) pa_nil)) (pe_ifExp (pt_cmpR op_eq (pe_ix (r := rIxT K) ix_tup (pv 0) pe_int (fun _ _ => rfl)) pe_int (nomark _)) pe_str (pe_op op_add_str pe_str (pe_callTy call_str_int (by rfl) T.str (by decide +kernel) (pa_cons (pe_ix (r := rIxT K) ix_tup (pv 0) pe_int (fun _ _ => rfl)) pa_nil))))))), ?_⟩
  have q1 := q
  rw [← PT.rt_tx] at q1
  have l1 : (Str.ofString (toString x.num)).length ≤ 31 := by
    rw [PT.num_tx, PT.tx_len]
    exact PT.sg_len (by decide) hn
  have l2 : (Str.ofString (toString ((x.den : Nat) : Int))).length ≤ 31 := by
    rw [PT.num_tx, PT.tx_len]
    exact PT.sg_len (by decide) (by omega)
  have ap : ∀ x y : Str, (x ++ y).length = x.length + y.length := fun x y => Array.size_append ..
  have e0 : (Str.ofString "").length = 0 := by decide
  have e1 : (Str.ofString "/").length = 1 := by decide
  refine ⟨_, rfl, p, _, _, _, rfl, rfl, SqT.of hp, ix0, _, rfl, log_small hn, _, rfl, p, _, _, _, rfl, rfl, SqT.of hp, ix1, rfl, _, rfl, ?_⟩
  refine ite2 (fun c => ?_) (fun c => ?_)
  · have h1 : ((x.den : Nat) : Int) = 1 := by
      have := of_decide_eq_true c
      injection this
    refine ⟨_, _, rfl, rfl, sl_small (by omega), ?_⟩
    rw [if_pos h1] at q1
    rw [show ∀ x : Str, x ++ Str.ofString "" = x from fun x => Str.append_empty x]
    exact q1
  · have h1 : ¬ ((x.den : Nat) : Int) = 1 := fun z => c (decide_eq_true (by rw [z]))
    rw [if_neg h1] at q1
    refine ⟨_, rfl, p, _, _, _, rfl, rfl, SqT.of hp, ix1, _, rfl, log_small (by omega), _, _, rfl, rfl, sl_small (by omega), _, _, rfl, rfl, sl_small (by rw [ap]; omega), ?_⟩
    rw [← Str.append_assoc]
    exact q1
theorem p9 {i : Int} (h : i.natAbs < 2 ^ 60) : i.natAbs < 2 ^ 200 := Nat.lt_of_lt_of_le h (RM.pow_le (by decide))
theorem ok_long_number (T : Txt K mg A) : FnOk P w K mg base CX0 3 A.f_long_number A.fd_long_number ["_law_bag_here"] spLong := by
  refine T.d_long_number.F.ok sc_long_number (fun vs H Q E h => ?_) (fun cdv ar outer s H vs Q E hr h => ?_)
  · obtain ⟨b, l, rfl, _⟩ := h
    rfl
  obtain ⟨b, l, rfl, B, q⟩ := h
  refine ⟨_, (pss_cons (ps_set (i := 1) sc_long_number.nd rfl (Or.inl rfl) pe_int)
    (pss_cons (ps_for PassesOwn.never rfl (pi_range1 rfl T.range (pa_cons (pe_op op_add pe_int (pe_call (ok_pull T) (hr.mono (by decide)) rfl T.d_pull.m T.d_pull.F.kp T.d_pull.b .nil pass0 (pa_cons (pv 0) (pa_cons pe_int pa_nil)))) pa_nil)) (pg_name (i := 2) sc_long_number.nd rfl (Or.inl rfl)) (pss_one (ps_set (i := 1) sc_long_number.nd rfl (Or.inl rfl) (pe_op op_add (pe_op op_mulW (pv 1) (pe_op op_pow pe_int pe_int)) (pe_call (ok_pull T) (hr.mono (by decide)) rfl T.d_pull.m T.d_pull.F.kp T.d_pull.b .nil pass0 (pa_cons (pv 0) (pa_cons (pe_op op_pow pe_int pe_int) pa_nil)))))))
    (pss_one (ps_ret (pe_call (ok_of T) (hr.mono (by decide)) rfl T.d_of.m T.d_of.F.kp T.d_of.b .nil pass0 (pa_cons (pv 0) (pa_cons (pe_lst (pa_cons (pv 1) (pa_cons (pv 1) (pa_cons (pe_op op_sub (pe_op op_sub (pe_op op_pow pe_int pe_int) pe_int) (pe_call (ok_pull T) (hr.mono (by decide)) rfl T.d_pull.m T.d_pull.F.kp T.d_pull.b .nil pass0 (pa_cons (pv 0) (pa_cons pe_int pa_nil)))) pa_nil)))) pa_nil))))))), ?_⟩
  refine ⟨_, rfl, b, l, 5, rfl, B, by decide, p9 (by decide), fun r H2 r0 r1 ap2 B2 => ⟨_, _, rfl, rfl, 1 + r, rfl, by omega, by omega, ?_⟩⟩
  refine for_range (n := (1 + r).toNat) (fun i σ H' => Bag H' b l ∧ Apart b H H' ∧ ∃ (z : Int) (u : Option V), σ = [some (.ref b), some (.int z), u] ∧ 0 ≤ z ∧ z < 10 ^ (6 * i)) ⟨B2, ap2, 0, none, rfl, by decide, by decide⟩ ?_ ?_
  · rintro i σ H3 hi ⟨B3, ap3, z, u, rfl, z0, z1⟩
    have hi5 : 6 * i ≤ 24 := by omega
    have z2 : z.natAbs < 2 ^ 100 := by
      have : (10 : Nat) ^ (6 * i) ≤ 10 ^ 24 := Nat.pow_le_pow_right (by decide) hi5
      have z3 : z.natAbs < 10 ^ (6 * i) := by
        have e : (((10 : Nat) ^ (6 * i) : Nat) : Int) = (10 : Int) ^ (6 * i) := by simp
        omega
      exact Nat.lt_of_lt_of_le z3 (Nat.le_trans this (by decide))
    refine ⟨_, rfl, _, _, rfl, rfl, ⟨by decide, by decide, by decide⟩, _, _, rfl, rfl, w_mul z2 (show ((10 : Int) ^ (6 : Int).toNat).natAbs < 2 ^ 20 by decide) (by decide), _, rfl, _, _, rfl, rfl, ⟨by decide, by decide, by decide⟩, b, l, 10 ^ 6, rfl, B3, by decide, p9 (by decide), fun d H4 d0 d1 ap4 B4 => ⟨_, _, rfl, rfl, ?_⟩⟩
    refine ⟨B4, ap3.trans ap4, z * 10 ^ (6 : Int).toNat + d, _, rfl, ?_, ?_⟩
    · have : 0 ≤ z * 10 ^ (6 : Int).toNat := Int.mul_nonneg z0 (by decide)
      omega
    · rw [show 6 * (i + 1) = 6 * i + 6 by omega, Int.pow_add]
      have e6 : (10 : Int) ^ (6 : Int).toNat = 1000000 := by decide
      have e7 : (10 : Int) ^ 6 = 1000000 := by decide
      rw [e7] at d1 ⊢
      rw [e6]
      omega
  · rintro σ H3 ⟨B3, ap3, z, u, rfl, z0, z1⟩
    have z2 : z < 10 ^ 30 := by
      refine Int.lt_of_lt_of_le z1 ?_
      have : (10 : Nat) ^ (6 * (1 + r).toNat) ≤ 10 ^ 30 := Nat.pow_le_pow_right (by decide) (by omega)
      exact_mod_cast this
    refine ⟨_, rfl, _, rfl, _, rfl, _, _, rfl, rfl, ⟨by decide, by decide, by decide⟩, _, _, rfl, rfl, _, rfl, b, l, 9, rfl, B3, by decide, p9 (by decide), fun d H4 d0 d1 ap4 B4 => ⟨_, _, rfl, rfl, slr rfl, fun L hL => ?_⟩⟩
    refine ⟨b, l, L, _, rfl, B4.new hL _, SqL.of upd_same, B4.ne hL, by show 0 < 3; decide, by show 3 ≤ 1000; decide, fun i v H5 hi ap5 B5 => ?_⟩
    have all : Apart b H H5 := ((ap3.trans ap4).trans (Same.new hL _).apart).trans ap5
    have e30 : (10 : Int) ^ (30 : Int).toNat = 10 ^ 30 := by decide
    match i, hi with
    | 0, hi => cases hi; exact q z H5 z0 z2 all B5
    | 1, hi => cases hi; exact q z H5 z0 z2 all B5
    | 2, hi => cases hi; exact q _ H5 (by rw [e30]; omega) (by rw [e30]; omega) all B5
end

-- CUT8
/-! ## int(text) of more than 640 signs, and the law's head with what it reads -/
namespace KI
open PySem PySem.Calls PySem.NumText PySem.W PySem.W.KIN PyProof.Rows
theorem limit_is {M : Model} {A : Around} {E : Value → Shared → Prop} {s : Shared} {Q : Nat → Shared → Prop} (hn : s.heap.NoDigits) (h : Q 4300 s) : wpAny M A Builtin.intMaxStrDigits Q E s := by
  obtain ⟨mc, hns, e⟩ := hn
  refine wpAny_bind (wpAny_nsGet hns ?_)
  rw [e]
  exact wpAny_pure h
theorem wp_big {M : Model} {A : Around} {E : Value → Shared → Prop} {s : Shared} {Q : Value → Shared → Prop} {v : Value} {t : List Nat} {n : Int} (hl : ¬ (t.takeWhile (· != 0)).length ≤ 640) (hn : s.heap.NoDigits)
    (hr : (int_private% "readNumeral") 4300 10 (t.takeWhile (· != 0)) = (int_private% "Numeral.value") n) (ha : ((t.takeWhile (· != 0)).length == t.length) = true) (h : Q (.int n s.toks) { s with toks := s.toks + 1 }) :
    wpAny M A ((int_private% "intFromText") v t 10) Q E s := by
  obtain ⟨hp, g, d, tk, os⟩ := s
  repeat (any_goals (first
    | exact h
    | (with_reducible refine wpAny_ite_false (decide_eq_false hl) ?_)
    | (with_reducible refine wpAny_ite_true (decide_eq_true ha) ?_)
    | (with_reducible refine limit_is hn ?_)
    | wp_step))
  all_goals (try rw [hr])
  all_goals (try dsimp only)
  repeat (any_goals (first
    | exact h
    | (with_reducible refine wpAny_ite_true (decide_eq_true ha) ?_)
    | wp_step))
structure Hold (p : Prop) : Prop where
  un : p
set_option maxHeartbeats 4000000 in
theorem meets_big {x : PySem.Str} {u : Tok} {n : Int} (hb : ¬ (numSeenOf x).length ≤ 640) (hl : x.length ≤ sizeLine) (hn : PySem.intText? x = some n) :
    Meets (Builtin.«int.__new__» ⟨[.type "int", .str x u], []⟩) (fun _ R s => s.heap.NoDigits ∧ R (.ok (.ret (.int n s.toks))) { s with toks := s.toks + 1 }) :=
  fun prog w A R s hq => wpAny_mono (Q := fun fin s' => ∃ v, fin = .done (.ret v) ∧ R (.ok (.ret v)) s') (E := fun _ _ => False) (by
    obtain ⟨hd, h⟩ := hq
    obtain ⟨hp, g, d, tk, os⟩ := s
    have f1 := F.conv_sub_int
    have f2 := F.madeHere_int
    have f3 := str_int
    have f4 := str_idx
    have f5 := str_trunc
    have f6 : typeOf (.str x u) = pure (.type "str") := rfl
    have hk : Hold ((int_private% "readNumeral") 4300 10 (numSeenOf x) = (int_private% "Numeral.value") n ∧ ((numSeenOf x).length == (numTextOf x).length) = true) := by
      rcases read4300 x hl with ⟨m, g1, g2, g3⟩ | ⟨g1, _⟩
      · rw [hn] at g1
        injection g1 with g1
        subst g1
        exact ⟨g3, g2⟩
      · rw [hn] at g1
        cases g1
    have hb' := Hold.mk hb
    clear hb hl hn
    repeat (any_goals (first
      | ((with_reducible show wpAny _ _ ((int_private% "intFromText") _ _ _) _ _ _); refine wp_big hb'.un hd hk.un.1 hk.un.2 ?_)
      | assumption
      | wp_step))
    all_goals first | exact ⟨_, rfl, h⟩ | skip) (fun fin s' z => by obtain ⟨v, rfl, z⟩ := z; exact z) (fun _ _ z => z.elim)
end KI
section
variable {X : Cx}
theorem call_int_any (hd : X.base.NoDigits) : CallR X (.type "int") (fun xs H Q => ∃ a n, xs = [.str a] ∧ PySem.intText? a = some n ∧ a.length ≤ sizeLine ∧ (PySem.numSeenOf a).length = a.length ∧ Q (.int n) H) := by
  intro pins s σ H xs us Q I rs h
  obtain ⟨a, n, rfl, hn, hl, hs, h⟩ := h
  cases rs with
  | cons r1 rs =>
    cases rs
    obtain ⟨t, rfl⟩ := r1
    by_cases c : a.length ≤ 640
    · exact PySem.W.KIN.call_text hn c ⟨.int n, H, I.tok _, ⟨_, rfl⟩, h⟩
    · exact PySem.call_int_1 (KI.meets_big (by rw [hs]; exact c) hl hn) ⟨hd.keeps I.bk, rfl, .int n, H, I.tok _, ⟨_, rfl⟩, h⟩
end
/-- more of the heap is told -/
theorem wider {P : Program} {w : World} {K K2 : PySem.W.Frag} {mg : Str → Option Value} {base : Heap} {k : Nat} {f : Addr} {fd : FuncData} {ps : List Str} {sp : Sp} (F : FnOk P w K mg base CX0 k f fd ps sp) (low : ∀ b o, K.lookup b = some o → K2.lookup b = some o) :
    FnOk P w K2 mg base CX0 k f fd ps sp :=
  ⟨F.len, fun A outer s H args us vs Q E hr e => F.run A outer s H args us vs Q E hr ⟨e.frames, ⟨fun b o z => e.mod.kin b o (low b o z), e.mod.glob, e.mod.blt, e.mod.nolimit⟩, e.bs, e.bsz, e.funs, e.frf, e.hok, e.bare⟩⟩
open PySem PySem.W PyProof.Rows in
theorem walkD {l : OpenLaw} {n k : Nat} {q : Program} {loose : List Str} {XP : (Str → Option Value) → Heap → Prop} {YP : World → Heap → Prop} {d : DefRec} {K : Params → Frag} {sp : Frag → Sp} {x : Str}
    (hn : l.most = some n) (hn2 : n ≤ sizeLine) (hdf : d.params.defaults = []) (hr : Room k callerA) (hY : ∀ (w : World) (h : Heap), YP w h → (K w.params).In h)
    (F : ∀ (w : World) (mg : Str → Option Value) (fa : Addr) (h : Heap), (K w.params).In h → h.Ns mainGlobals mg → mg d.name = some (.ref fa) →
      ∃ fd : FuncData, (∀ (s : Shared) (u : Value), BindsTo s fd ⟨[u], []⟩ [(x, u)]) ∧ ∀ base : Heap, (K w.params).In base → base.Ns mainGlobals mg → base.NoDigits → FnOk l.prog w (K w.params) mg base CX0 k fa fd [x] (sp (K w.params)))
    (hsp : ∀ (K : Frag) (H : Hp) (a : Addr) (ns : List Int), ns.length ≤ n → SqL K H a (ns.map V.int) → sp K [.ref a] H (fun v _ => v = .bl true) fun _ _ _ => False) :
    WalkO q loose XP YP l.row.toRowW d [] (fun f vs => PySem.call f vs) := by
  refine Att.attach_call hn hdf fun w s0 s1 mg mb fa o pm cd doc a vs ns G Y ho hd hcd hmg hobj hints hlen hg => ?_
  have KX := hY w _ Y
  obtain ⟨fd, hb, hF⟩ := F w mg fa _ KX G.T.g hmg
  obtain ⟨mc, ⟨oc, es, ep, e1, e2, e3⟩, hmc⟩ := G.T.nodigits
  have here : List.lookup cStatics ((cStatics, oc) :: K w.params) = some oc := by simp [List.lookup]
  have other : ∀ b, b ≠ cStatics → List.lookup b ((cStatics, oc) :: K w.params) = (K w.params).lookup b := fun b c => by
    rw [List.lookup_cons]
    have e : (b == cStatics) = false := by simpa using c
    rw [e]
  have low : ∀ b o, (K w.params).lookup b = some o → List.lookup b ((cStatics, oc) :: K w.params) = some o := fun b o z => by
    by_cases c : b = cStatics
    · subst c
      have z2 := KX _ _ z
      rw [e1] at z2
      cases z2
      exact here
    · rw [other b c]
      exact z
  have KX2 : Frag.In ((cStatics, oc) :: K w.params) s1.heap := fun b o z => by
    by_cases c : b = cStatics
    · subst c
      rw [here] at z
      cases z
      exact e1
    · rw [other b c] at z
      exact KX _ _ z
  refine law_call KX2 G.T.g G.T.b G.T.builtins G.T.nolimit hg hobj hints (Nat.le_trans hlen hn2) hr (fun base hK hns => wider (hF base (fun b o z => hK b o (low b o z)) hns ⟨mc, ⟨oc, es, ep, hK _ _ here, e2, e3⟩, hmc⟩) low) hb (fun H _ hS => hsp _ H a ns hlen ?_) fun _ _ _ z => z
  rcases hS with hS | ⟨ob, its, m, z, c1, c2, c3, c4⟩
  · exact .inl hS
  · by_cases c : a = cStatics
    · subst c
      rw [here] at z
      cases z
      rw [e2] at c3
      cases c3
    · rw [other a c] at z
      exact .inr ⟨ob, its, m, z, c1, c2, c3, c4⟩

-- CUT9
/-! ## Draws of fractions -/
/-- tuples stay -/
def KeepT (H H' : Hp) : Prop := ∀ p xs, H p = some (.tup xs) → H' p = some (.tup xs)
theorem _root_.L2.Same.kt {H H' : Hp} (e : Same H H') : KeepT H H' := fun p xs h => e p _ h
theorem Apart.kt {b : Addr} {H H' : Hp} (e : Apart b H H') {l : Addr} (B : Bag H b l) : KeepT H H' := fun p xs h => e p _ (B.nt h) h
theorem KeepT.trans {H H1 H2 : Hp} (x : KeepT H H1) (y : KeepT H1 H2) : KeepT H H2 := fun p xs h => y p xs (x p xs h)
theorem KeepT.refl (H : Hp) : KeepT H H := fun _ _ h => h
theorem kt_list {H : Hp} {D : Addr} {xs : List V} {o : HO} (h : H D = some (.lst xs)) : KeepT H (upd H D o) := fun p ys e => by
  rw [upd_ne (ne_of e h (fun z => nomatch z))]
  exact e
theorem IsR.keep {H H' : Hp} {v : V} {x : Rat} (h : IsR H v x) (e : KeepT H H') : IsR H' v x := by
  obtain ⟨p, h1, h2⟩ := h
  exact ⟨p, h1, e _ _ h2⟩
theorem RL.keep {H H' : Hp} {vs : List V} {qs : List Rat} (h : RL H vs qs) (e : KeepT H H') : RL H' vs qs := paired_imp (fun _ _ z => z.keep e) h
theorem paired_snoc {α β : Type} {R : α → β → Prop} {x : α} {y : β} (r : R x y) : ∀ {xs : List α} {ys : List β}, Paired R xs ys → Paired R (xs ++ [x]) (ys ++ [y])
  | _, _, .nil => .cons r .nil
  | _, _, .cons h t => .cons h (paired_snoc r t)
theorem AllBd.snoc {k : Nat} {qs : List Rat} {x : Rat} (h : AllBd k qs) (b : RM.Bd k x) : AllBd k (qs ++ [x]) := fun y hy => by
  rcases List.mem_append.mp hy with z | z
  · exact h y z
  · rw [List.mem_singleton.mp z]
    exact b
theorem AllBd.nil {k : Nat} : AllBd k [] := fun _ h => absurd h (by simp)
theorem AllBd.cons {k : Nat} {qs : List Rat} {x : Rat} (b : RM.Bd k x) (h : AllBd k qs) : AllBd k (x :: qs) := fun y hy => by
  rcases List.mem_cons.mp hy with z | z
  · rw [z]
    exact b
  · exact h y z
theorem eqI {K : PySem.W.Frag} {H : Hp} {n : Nat} (i : Int) : EqD K H n (.int i) (.int i) := EqD.flat (x := .int i) True.intro
theorem eqI2 {K : PySem.W.Frag} {H : Hp} {n : Nat} {i j : Int} (h : i = j) : EqD K H n (.int i) (.int j) := by rw [h]; exact eqI j
theorem eqR {K : PySem.W.Frag} {H : Hp} {v u : V} {x : Rat} {n : Nat} (h : IsR H v x) (g : IsR H u x) : EqD K H (n + 1) v u := by
  obtain ⟨p, rfl, hp⟩ := h
  obtain ⟨r, rfl, hr⟩ := g
  exact .inr (.inr ⟨p, r, _, _, rfl, rfl, hp, hr, .cons (eqI _) (.cons (eqI _) .nil), by show 2 ≤ 100000; decide⟩)
theorem eqL {K : PySem.W.Frag} {H : Hp} {a b : Addr} {xs ys : List V} {n : Nat} (h : H a = some (.lst xs)) (g : H b = some (.lst ys)) (hp : Paired (EqD K H n) xs ys) (hl : xs.length ≤ 100000) : EqD K H (n + 1) (.ref a) (.ref b) :=
  .inr (.inl ⟨a, b, xs, ys, rfl, rfl, h, g, hp, hl⟩)
theorem eqRL {K : PySem.W.Frag} {H : Hp} {n : Nat} : ∀ {vs us : List V} {qs : List Rat}, RL H vs qs → RL H us qs → Paired (EqD K H (n + 1)) vs us
  | _, _, _, .nil, .nil => .nil
  | _, _, _, .cons a r, .cons b t => .cons (eqR a b) (eqRL r t)
/-! ### == of lists of fractions -/
def frD (x : Rat) : PyData := .tuple [.int x.num, .int ((x.den : Nat) : Int)]
theorem dp_fr {K : PySem.W.Frag} {H : Hp} {v : V} {x : Rat} (h : IsR H v x) : Dp K H v (frD x) := by
  obtain ⟨p, rfl, hp⟩ := h
  exact .tup (SqT.of hp) (.cons (.int _) (.cons (.int _) .nil))
theorem dp_rl {K : PySem.W.Frag} {H : Hp} : ∀ {vs : List V} {qs : List Rat}, RL H vs qs → DpAll K H vs (qs.map frD)
  | _, _, .nil => .nil
  | _, _, .cons r t => .cons (dp_fr r) (dp_rl t)
theorem can_fr : ∀ qs : List Rat, PyData.canLayAll0 (qs.map frD) = true
  | [] => rfl
  | x :: r => by
    show (PyData.canLay0 (frD x) && PyData.canLayAll0 (r.map frD)) = true
    rw [can_fr r]
    rfl
theorem dep_fr : ∀ qs : List Rat, PyData.depthAll (qs.map frD) ≤ 1
  | [] => Nat.zero_le _
  | x :: r => by
    show max (PyData.depth (frD x)) (PyData.depthAll (r.map frD)) ≤ 1
    exact Nat.max_le.mpr ⟨Nat.le_refl 1, dep_fr r⟩
theorem shp_fr (qs : List Rat) : SeqAt.shaped (.list (qs.map frD)) = true := by
  unfold SeqAt.shaped
  have h1 : PyData.canLay0 (.list (qs.map frD)) = true := can_fr qs
  have h2 : PyData.depth (.list (qs.map frD)) ≤ 64 := by
    show PyData.depthAll (qs.map frD) + 1 ≤ 64
    have := dep_fr qs
    omega
  rw [h1, decide_eq_true h2]
  rfl
theorem eqv_fr (qs : List Rat) : PyData.eqv (.list (qs.map frD)) (.list (qs.map frD)) = true := SeqAt.eqv_refl _ (can_fr qs)
theorem sz {n : Nat} (h : Nat.ble n 8000 = true) : n ≤ 8000 := Nat.le_of_ble_eq_true h
theorem sum2 (x y : Rat) : RM.sumR [x, y] = x + y := by
  show (0 : Rat) + x + y = x + y
  rw [Rat.zero_add]
theorem sum1 (x : Rat) : RM.sumR [x] = x := by
  show (0 : Rat) + x = x
  rw [Rat.zero_add]
theorem mul2 (x y : Rat) : RM.mulR [x, y] = x * y := by
  show (1 : Rat) * x * y = x * y
  rw [Rat.one_mul]
theorem mul1 (x : Rat) : RM.mulR [x] = x := by
  show (1 : Rat) * x = x
  rw [Rat.one_mul]
theorem mul3 (x y z : Rat) : RM.mulR [x, y, z] = x * y * z := by
  show (1 : Rat) * x * y * z = x * y * z
  rw [Rat.one_mul]

/-! ## Drawn numbers, pairs and what is made of them -/
theorem op_mulS {X : Cx} : OpR X (binaryOp .Mult) (fun x y H Q => ∃ z n, x = .str z ∧ y = .int n ∧ MulOk z n ∧ Q (.str (Txt.mul z n)) H) := by
  intro pins s σ H x y v u Q I rx ry h
  obtain ⟨z, n, rfl, rfl, ok, q⟩ := h
  obtain ⟨t, rfl⟩ := rx
  obtain ⟨t', rfl⟩ := ry
  exact SB.mul ok fun t2 k => ⟨.str _, H, I.tok k, ⟨_, rfl⟩, q⟩
def Ints (lo : Int) (H1 : Hp) (b l D : Addr) (i : Nat) (H' : Hp) : Prop := Bag H' b l ∧ Apart b H1 H' ∧ ∃ zs : List Int, H' D = some (.lst (zs.map V.int)) ∧ zs.length = i ∧ ∀ z ∈ zs, lo ≤ z ∧ z < 10 ^ 30
theorem ints_start {lo : Int} {H1 : Hp} {b l D : Addr} (B : Bag H1 b l) (hD : H1 D = none) : Ints lo H1 b l D 0 (upd H1 D (.lst [])) :=
  ⟨B.new hD _, (Same.new hD _).apart, [], upd_same, rfl, fun _ h => absurd h (by simp)⟩
theorem ints_step {lo : Int} {i : Nat} {H1 H' H2 : Hp} {b l D : Addr} {v : Int} {zs : List Int} (B1 : Bag H1 b l) (hD0 : H1 D = none) (h : Ints lo H1 b l D i H') (hzs : H' D = some (.lst (zs.map V.int))) (ap : Apart b H' H2) (B2 : Bag H2 b l) (h1 : lo ≤ v) (h2 : v < 10 ^ 30) :
    Ints lo H1 b l D (i + 1) (upd H2 D (.lst (zs.map V.int ++ [.int v]))) := by
  obtain ⟨B, e, zs', hz', hl, hz⟩ := h
  have ez : zs' = zs := by
    have z := hz'.symm.trans hzs
    injection z with z
    injection z with z
    exact List.map_inj_right (fun x y e => by injection e) |>.mp z
  subst ez
  refine ⟨B2.upd (B1.ne hD0) (B1.ne2 hD0), fun c o nc ec => ?_, zs' ++ [v], by rw [upd_same, List.map_append]; rfl, by rw [List.length_append, hl]; rfl, fun z hz2 => ?_⟩
  · rw [upd_ne (ne_of_none ec hD0)]
    exact ap _ _ nc (e _ _ nc ec)
  · rcases List.mem_append.mp hz2 with z2 | z2
    · exact hz z z2
    · rw [List.mem_singleton.mp z2]
      exact ⟨h1, h2⟩
abbrev Pr := Int × Int
def fr (p : Pr) : Rat := Rat.divInt p.1 p.2
def IsP (H : Hp) (v : V) (p : Pr) : Prop := ∃ q, v = .ref q ∧ H q = some (.tup [.int p.1, .int p.2])
theorem IsP.mono {H H' : Hp} {v : V} {p : Pr} (h : IsP H v p) (e : Same H H') : IsP H' v p := by
  obtain ⟨q, h1, h2⟩ := h
  exact ⟨q, h1, e _ _ h2⟩
def Lows (p : Pr) : Prop := 0 < p.2 ∧ p.2 < 10 ^ 30 ∧ p.1.natAbs < 10 ^ 30
def FrI (H1 : Hp) (D : Addr) (ps : List Pr) (i : Nat) (H' : Hp) : Prop := Same H1 H' ∧ ∃ us, H' D = some (.lst us) ∧ us.length = i ∧ RL H' us ((ps.take i).map fr)
theorem fri_start {H1 : Hp} {D : Addr} {ps : List Pr} (hD : H1 D = none) : FrI H1 D ps 0 (upd H1 D (.lst [])) := ⟨Same.new hD _, [], upd_same, rfl, .nil⟩
theorem fri_step {H1 H' H2 : Hp} {D r : Addr} {ps : List Pr} {p : Pr} {i : Nat} (hD0 : H1 D = none) (h : FrI H1 D ps i H') (hi : ps[i]? = some p) (e : Same H' H2) (hr : H2 r = some (.tup (FR (fr p)))) :
    ∃ acc, H2 D = some (.lst acc) ∧ acc.length = i ∧ FrI H1 D ps (i + 1) (upd H2 D (.lst (acc ++ [.ref r]))) := by
  obtain ⟨e1, us, hD, hl, hR⟩ := h
  have hD2 : H2 D = some (.lst us) := e _ _ hD
  have kt : KeepT H2 (upd H2 D (.lst (us ++ [.ref r]))) := kt_list hD2
  refine ⟨us, hD2, hl, (e1.trans e).set hD0 _, us ++ [.ref r], upd_same, by rw [List.length_append, hl]; rfl, ?_⟩
  rw [RM.take_succ hi, List.map_append]
  exact paired_snoc ⟨r, rfl, kt _ _ hr⟩ ((hR.mono e).keep kt)
def BlI (f : Pr → Bool) (H1 : Hp) (D : Addr) (ps : List Pr) (i : Nat) (H' : Hp) : Prop := Same H1 H' ∧ H' D = some (.lst ((ps.take i).map fun p => V.bl (f p)))
theorem bli_start {f : Pr → Bool} {H1 : Hp} {D : Addr} {ps : List Pr} (hD : H1 D = none) : BlI f H1 D ps 0 (upd H1 D (.lst [])) := ⟨Same.new hD _, upd_same⟩
theorem bli_step {f : Pr → Bool} {H1 H' H2 : Hp} {D : Addr} {ps : List Pr} {p : Pr} {i : Nat} (hD0 : H1 D = none) (h : BlI f H1 D ps i H') (hi : ps[i]? = some p) (e : Same H' H2) :
    ∃ acc, H2 D = some (.lst acc) ∧ acc.length ≤ i ∧ BlI f H1 D ps (i + 1) (upd H2 D (.lst (acc ++ [.bl (f p)]))) := by
  refine ⟨_, e _ _ h.2, by rw [List.length_map, List.length_take]; omega, (h.1.trans e).set hD0 _, ?_⟩
  rw [upd_same, RM.take_succ hi, List.map_append]
  rfl
theorem eqB {K : PySem.W.Frag} {H : Hp} {n : Nat} (i : Bool) : EqD K H n (.bl i) (.bl i) := EqD.flat (x := .bl i) True.intro
theorem eqS {K : PySem.W.Frag} {H : Hp} {n : Nat} {x y : Str} (h : x = y) : EqD K H n (.str x) (.str y) := by
  rw [h]
  exact EqD.flat (x := .str y) True.intro
theorem eqBL {K : PySem.W.Frag} {H : Hp} {n : Nat} {f g : Pr → Bool} : ∀ {ps : List Pr}, (∀ p ∈ ps, f p = g p) → Paired (EqD K H n) (ps.map fun p => V.bl (f p)) (ps.map fun p => V.bl (g p))
  | [], _ => .nil
  | p :: r, h => .cons (by show EqD K H n (.bl (f p)) (.bl (g p)); rw [h p List.mem_cons_self]; exact eqB _) (eqBL fun x hx => h x (List.mem_cons_of_mem _ hx))
theorem ten30 : (10 : Nat) ^ 30 < 2 ^ 100 := by decide
theorem Lows.bd {p : Pr} (h : Lows p) : RM.Bd 100 (fr p) := RM.Bd.div (by have := h.1; omega) (Nat.lt_trans h.2.2 ten30) (Nat.lt_trans (by have := h.2.1; have := h.1; omega) ten30)
theorem Lows.big {p : Pr} (h : Lows p) : p.2.natAbs < 2 ^ 8000 := Nat.lt_of_lt_of_le (show p.2.natAbs < 10 ^ 30 by have := h.2.1; have := h.1; omega) (Nat.le_trans (Nat.le_of_lt ten30) (RM.pow_le (by decide)))
theorem Lows.num {p : Pr} (h : Lows p) : (fr p).num.natAbs < 10 ^ 30 := Nat.lt_of_le_of_lt (RM.div_num_le (by have := h.1; omega)) h.2.2
theorem Lows.den {p : Pr} (h : Lows p) : (fr p).den < 10 ^ 30 := Nat.lt_of_le_of_lt (RM.div_den_le (by have := h.1; omega)) (by have := h.2.1; have := h.1; omega)
namespace PT
theorem pow_dg : ∀ n : Nat, Nat.toDigits 10 (10 ^ n) = '1' :: List.replicate n '0'
  | 0 => by decide
  | n + 1 => by
    have h1 : 0 < 10 ^ n := Nat.pow_pos (by decide)
    rw [Nat.toDigits_of_base_le (by decide) (by rw [Nat.pow_succ]; omega), show 10 ^ (n + 1) / 10 = 10 ^ n by rw [Nat.pow_succ]; omega, show 10 ^ (n + 1) % 10 = 0 by rw [Nat.pow_succ]; omega, pow_dg n, List.replicate_succ']
    rfl
theorem pow_sg (n : Nat) : sg (((10 : Nat) ^ n : Nat) : Int) = 49 :: List.replicate n 48 := by
  unfold sg
  rw [if_neg (Int.not_lt.mpr (Int.natCast_nonneg _)), Int.natAbs_natCast]
  unfold dg
  rw [pow_dg, List.map_cons, List.map_replicate]
  rfl
theorem pow_tx {n : Int} : Str.ofString "1" ++ Txt.mul (Str.ofString "0") n = tx (sg (((10 : Nat) ^ n.toNat : Nat) : Int)) := by
  have e : Txt.mul (Str.ofString "0") n = tx (List.replicate n.toNat 48) := by
    have := PyProof.Rows.mul_one_list 48 n
    show Txt.mul ⟨#[48]⟩ n = _
    unfold tx
    rw [← this]
  rw [e, pow_sg]
  exact tx_app [49] _
end PT

-- CUT10
def spLaw (K : PySem.W.Frag) : Sp := fun vs H Q _ => ∃ (a : Addr) (ns : List Int), vs = [.ref a] ∧ SqL K H a (ns.map V.int) ∧ ns.length ≤ 63 ∧ ∀ H', Q (.bl true) H'
section
variable {P : Program} {w : World} {K : PySem.W.Frag} {mg : Str → Option Value} {base : Heap} {A : Ad}
set_option maxHeartbeats 0 in
theorem ok_law (T : Txt K mg A) (hdig : base.NoDigits) : FnOk P w K mg base CX0 12 A.f_law A.fd_law ["_law_script"] (spLaw K) := by
  refine T.d_law.F.ok sc_law (fun vs H Q E h => ?_) (fun cdv ar outer s H vs Q E hr h => ?_)
  · obtain ⟨a, ns, rfl, _⟩ := h
    rfl
  obtain ⟨a0, ns, rfl, hS, h63, q⟩ := h
  refine ⟨_, (pss_cons (ps_set (i := 1) sc_law.nd rfl (Or.inr rfl) (pe_call (ok_bag T) (hr.mono (by decide)) rfl T.d_bag.m T.d_bag.F.kp T.d_bag.b .nil pass0 (pa_cons (pv 0) pa_nil)))
    (pss_cons (ps_for PassesOwn.never rfl (pi_range1 rfl T.range (pa_cons pe_int pa_nil)) (pg_name (i := 2) sc_law.nd rfl (Or.inl rfl)) (pss_cons (ps_asg (pe_lc (own := [("_law_k", 16)]) (g := gName 16) (tt := tYes) rfl sc_law.nd (pi_range1 rfl T.range (pa_cons pe_int pa_nil)) (blkOk_by (own := [("_law_k", 16)]) (N := ["_law_script", "_law_bag_here", "_law_turn", "_law_a", "_law_b", "_law_c", "_law_down", "_law_pairs", "_law_parts", "_law_told", "_law_one", "_law_two", "_law_three", "_law_sign", "_law_due", "_law_text", "_law_k", "_law_pair"]) (sc := defScope s_law) (by decide +kernel)) (fun _ _ _ _ _ => (pg_name (i := 16) sc_law.nd rfl (Or.inl rfl))) (fun _ _ _ _ _ => pts_nil) (fun _ _ _ _ _ => (pe_call (ok_long_number T) (hr.mono (by decide)) rfl T.d_long_number.m T.d_long_number.F.kp T.d_long_number.b .nil pass0 (pa_cons (pv 1) pa_nil)))) (pg_unl rfl (pgs_cons (pg_name (i := 3) sc_law.nd rfl (Or.inl rfl)) (pgs_cons (pg_name (i := 4) sc_law.nd rfl (Or.inl rfl)) (pgs_cons (pg_name (i := 5) sc_law.nd rfl (Or.inl rfl)) pgs_nil)))))
    (pss_cons (ps_setLc (i := 6) (own := [("_law_k", 16)]) (g := gName 16) (tt := tYes) rfl sc_law.nd rfl rfl (sw_true rfl rfl rfl (by decide +kernel)) (pi_range1 rfl T.range (pa_cons pe_int pa_nil)) (blkOk_by (own := [("_law_k", 16)]) (N := ["_law_script", "_law_bag_here", "_law_turn", "_law_a", "_law_b", "_law_c", "_law_down", "_law_pairs", "_law_parts", "_law_told", "_law_one", "_law_two", "_law_three", "_law_sign", "_law_due", "_law_text", "_law_k", "_law_pair"]) (sc := defScope s_law) (by decide +kernel)) (fun _ _ _ _ _ => (pg_name (i := 16) sc_law.nd rfl (Or.inl rfl))) (fun _ _ _ _ _ => pts_nil) (fun _ _ _ _ _ => (pe_callB (call_max2 rfl) (by rfl) T.max (by decide +kernel) (pa_cons pe_int (pa_cons (pe_call (ok_long_number T) (hr.mono (by decide)) rfl T.d_long_number.m T.d_long_number.F.kp T.d_long_number.b .nil pass0 (pa_cons (pv 1) pa_nil)) pa_nil)))))
    (pss_cons (ps_set (i := 7) sc_law.nd rfl (Or.inl rfl) (pe_lst (pa_cons (pe_tup (pa_cons (pv 3) (pa_cons (pe_ix (r := rIx K) ix_seq (pv 6) pe_int (fun _ _ => rfl)) pa_nil))) (pa_cons (pe_tup (pa_cons (pe_op op_sub pe_int (pv 4)) (pa_cons (pe_ix (r := rIx K) ix_seq (pv 6) pe_int (fun _ _ => rfl)) pa_nil))) (pa_cons (pe_tup (pa_cons (pe_callB (call_min2 rfl) (by rfl) T.min (by decide +kernel) (pa_cons (pe_op op_add (pv 3) (pe_call (ok_pull T) (hr.mono (by decide)) rfl T.d_pull.m T.d_pull.F.kp T.d_pull.b .nil pass0 (pa_cons (pv 1) (pa_cons pe_int pa_nil)))) (pa_cons (pe_op op_sub (pe_op op_pow pe_int pe_int) pe_int) pa_nil))) (pa_cons (pe_ix (r := rIx K) ix_seq (pv 6) pe_int (fun _ _ => rfl)) pa_nil))) pa_nil)))))
    (pss_cons (ps_setLc (i := 8) (own := [("_law_pair", 17)]) (g := gName 17) (tt := tYes) rfl sc_law.nd rfl rfl (sw_true rfl rfl rfl (by decide +kernel)) (pi_list (pv 7)) (blkOk_by (own := [("_law_pair", 17)]) (N := ["_law_script", "_law_bag_here", "_law_turn", "_law_a", "_law_b", "_law_c", "_law_down", "_law_pairs", "_law_parts", "_law_told", "_law_one", "_law_two", "_law_three", "_law_sign", "_law_due", "_law_text", "_law_k", "_law_pair"]) (sc := defScope s_law) (by decide +kernel)) (fun _ _ _ _ _ => (pg_name (i := 17) sc_law.nd rfl (Or.inl rfl))) (fun _ _ _ _ _ => pts_nil) (fun _ _ _ _ _ => (pe_call (ok_low T) (hr.mono (by decide)) rfl T.d_low.m T.d_low.F.kp T.d_low.b .nil pass0 (pa_cons (pe_ix (r := rIx K) ix_seq (pv 17) pe_int (fun _ _ => rfl)) (pa_cons (pe_ix (r := rIx K) ix_seq (pv 17) pe_int (fun _ _ => rfl)) pa_nil)))))
    (pss_cons (ps_set (i := 9) sc_law.nd rfl (Or.inl rfl) (pe_op op_cat (pe_lc (own := [("_law_pair", 17)]) (g := gName 17) (tt := tYes) rfl sc_law.nd (pi_list (pv 7)) (blkOk_by (own := [("_law_pair", 17)]) (N := ["_law_script", "_law_bag_here", "_law_turn", "_law_a", "_law_b", "_law_c", "_law_down", "_law_pairs", "_law_parts", "_law_told", "_law_one", "_law_two", "_law_three", "_law_sign", "_law_due", "_law_text", "_law_k", "_law_pair"]) (sc := defScope s_law) (by decide +kernel)) (fun _ _ _ _ _ => (pg_name (i := 17) sc_law.nd rfl (Or.inl rfl))) (fun _ _ _ _ _ => pts_nil) (fun _ _ _ _ _ => (pe_call (ok_reduced T) (hr.mono (by decide)) rfl T.d_reduced.m T.d_reduced.F.kp T.d_reduced.b .nil pass0 (pa_cons (pe_ix (r := rIx K) ix_seq (pv 17) pe_int (fun _ _ => rfl)) (pa_cons (pe_ix (r := rIx K) ix_seq (pv 17) pe_int (fun _ _ => rfl)) pa_nil))))) (pe_lst (pa_cons (pe_call (ok_reduced T) (hr.mono (by decide)) rfl T.d_reduced.m T.d_reduced.F.kp T.d_reduced.b .nil pass0 (pa_cons (pe_op op_sub pe_int (pv 5)) (pa_cons (pe_op op_sub pe_int (pe_ix (r := rIx K) ix_seq (pv 6) pe_int (fun _ _ => rfl))) pa_nil))) pa_nil))))
    (pss_cons (ps_if (pt_not (pt_val (pe_call (ok_same T) (hr.mono (by decide)) rfl T.d_same.m T.d_same.F.kp T.d_same.b .nil pass0 (pa_cons (pv 9) (pa_cons (pe_op op_cat (pv 8) (pe_lst (pa_cons (pe_call (ok_low T) (hr.mono (by decide)) rfl T.d_low.m T.d_low.F.kp T.d_low.b .nil pass0 (pa_cons (pv 5) (pa_cons (pe_ix (r := rIx K) ix_seq (pv 6) pe_int (fun _ _ => rfl)) pa_nil))) pa_nil))) pa_nil))))) (pss_one (ps_ret pe_bl)) pss_nil)
    (pss_cons (ps_setLc (i := 9) (own := [("_law_pair", 17)]) (g := gName 17) (tt := tYes) rfl sc_law.nd rfl rfl (sw_true rfl rfl rfl (by decide +kernel)) (pi_list (pv 7)) (blkOk_by (own := [("_law_pair", 17)]) (N := ["_law_script", "_law_bag_here", "_law_turn", "_law_a", "_law_b", "_law_c", "_law_down", "_law_pairs", "_law_parts", "_law_told", "_law_one", "_law_two", "_law_three", "_law_sign", "_law_due", "_law_text", "_law_k", "_law_pair"]) (sc := defScope s_law) (by decide +kernel)) (fun _ _ _ _ _ => (pg_name (i := 17) sc_law.nd rfl (Or.inl rfl))) (fun _ _ _ _ _ => pts_nil) (fun _ _ _ _ _ => (pe_call (ok_is_fraction T) (hr.mono (by decide)) rfl T.d_is_fraction.m T.d_is_fraction.F.kp T.d_is_fraction.b .nil pass0 (pa_cons (pv 17) pa_nil))))
    (pss_cons (ps_if (pt_not (pt_val (pe_call (ok_same T) (hr.mono (by decide)) rfl T.d_same.m T.d_same.F.kp T.d_same.b .nil pass0 (pa_cons (pv 9) (pa_cons (pe_lc (own := [("_law_pair", 17)]) (g := gName 17) (tt := tYes) rfl sc_law.nd (pi_list (pv 7)) (blkOk_by (own := [("_law_pair", 17)]) (N := ["_law_script", "_law_bag_here", "_law_turn", "_law_a", "_law_b", "_law_c", "_law_down", "_law_pairs", "_law_parts", "_law_told", "_law_one", "_law_two", "_law_three", "_law_sign", "_law_due", "_law_text", "_law_k", "_law_pair"]) (sc := defScope s_law) (by decide +kernel)) (fun _ _ _ _ _ => (pg_name (i := 17) sc_law.nd rfl (Or.inl rfl))) (fun _ _ _ _ _ => pts_nil) (fun _ _ _ _ _ => (pe_cmpR op_eq (pe_call (ok_gcd T) (hr.mono (by decide)) rfl T.d_gcd.m T.d_gcd.F.kp T.d_gcd.b .nil pass0 (pa_cons (pe_ix (r := rIx K) ix_seq (pv 17) pe_int (fun _ _ => rfl)) (pa_cons (pe_ix (r := rIx K) ix_seq (pv 17) pe_int (fun _ _ => rfl)) pa_nil))) pe_int (nomark _)))) pa_nil))))) (pss_one (ps_ret pe_bl)) pss_nil)
    (pss_cons (ps_asg (pv 8) (pg_unl rfl (pgs_cons (pg_name (i := 10) sc_law.nd rfl (Or.inl rfl)) (pgs_cons (pg_name (i := 11) sc_law.nd rfl (Or.inl rfl)) (pgs_cons (pg_name (i := 12) sc_law.nd rfl (Or.inl rfl)) pgs_nil)))))
    (pss_cons (ps_set (i := 9) sc_law.nd rfl (Or.inl rfl) (pe_lst (pa_cons (pe_callN (ok_plus T) (hr.mono (by decide)) rfl T.d_plus.m T.d_plus.F.kp pass0 (pa_cons (pv 10) (pa_cons (pv 11) pa_nil))) (pa_cons (pe_callN (ok_plus T) (hr.mono (by decide)) rfl T.d_plus.m T.d_plus.F.kp pass0 (pa_cons (pv 10) (pa_cons (pv 11) (pa_cons (pv 12) pa_nil)))) (pa_cons (pe_callN (ok_times T) (hr.mono (by decide)) rfl T.d_times.m T.d_times.F.kp pass0 (pa_cons (pv 10) (pa_cons (pv 11) pa_nil))) (pa_cons (pe_call (ok_total T) (hr.mono (by decide)) rfl T.d_total.m T.d_total.F.kp T.d_total.b .nil pass0 (pa_cons (pv 8) pa_nil)) (pa_cons (pe_call (ok_negative T) (hr.mono (by decide)) rfl T.d_negative.m T.d_negative.F.kp T.d_negative.b .nil pass0 (pa_cons (pv 11) pa_nil)) (pa_cons (pe_call (ok_order T) (hr.mono (by decide)) rfl T.d_order.m T.d_order.F.kp T.d_order.b .nil pass0 (pa_cons (pv 10) (pa_cons (pv 12) pa_nil))) pa_nil))))))))
    (pss_cons (ps_set (i := 13) sc_law.nd rfl (Or.inl rfl) (pe_op op_sub (pe_callTy call_int1 (by rfl) T.int (by decide +kernel) (pa_cons (pe_call (ok_less T) (hr.mono (by decide)) rfl T.d_less.m T.d_less.F.kp T.d_less.b .nil pass0 (pa_cons (pv 12) (pa_cons (pv 10) pa_nil))) pa_nil)) (pe_callTy call_int1 (by rfl) T.int (by decide +kernel) (pa_cons (pe_call (ok_less T) (hr.mono (by decide)) rfl T.d_less.m T.d_less.F.kp T.d_less.b .nil pass0 (pa_cons (pv 10) (pa_cons (pv 12) pa_nil))) pa_nil))))
    (pss_cons (ps_set (i := 14) sc_law.nd rfl (Or.inl rfl) (pe_lst (pa_cons (pe_call (ok_add T) (hr.mono (by decide)) rfl T.d_add.m T.d_add.F.kp T.d_add.b .nil pass0 (pa_cons (pv 10) (pa_cons (pv 11) pa_nil))) (pa_cons (pe_call (ok_sum T) (hr.mono (by decide)) rfl T.d_sum.m T.d_sum.F.kp T.d_sum.b .nil pass0 (pa_cons (pv 8) pa_nil)) (pa_cons (pe_call (ok_mul T) (hr.mono (by decide)) rfl T.d_mul.m T.d_mul.F.kp T.d_mul.b .nil pass0 (pa_cons (pv 10) (pa_cons (pv 11) pa_nil))) (pa_cons (pe_call (ok_sum T) (hr.mono (by decide)) rfl T.d_sum.m T.d_sum.F.kp T.d_sum.b .nil pass0 (pa_cons (pv 8) pa_nil)) (pa_cons (pe_call (ok_neg T) (hr.mono (by decide)) rfl T.d_neg.m T.d_neg.F.kp T.d_neg.b .nil pass0 (pa_cons (pv 11) pa_nil)) (pa_cons (pv 13) pa_nil))))))))
    (pss_cons (ps_if (pt_not (pt_val (pe_call (ok_same T) (hr.mono (by decide)) rfl T.d_same.m T.d_same.F.kp T.d_same.b .nil pass0 (pa_cons (pe_op op_cat (pv 9) (pe_lst (pa_cons (pe_call (ok_order T) (hr.mono (by decide)) rfl T.d_order.m T.d_order.F.kp T.d_order.b .nil pass0 (pa_cons (pv 12) (pa_cons (pv 10) pa_nil))) (pa_cons (pe_call (ok_order T) (hr.mono (by decide)) rfl T.d_order.m T.d_order.F.kp T.d_order.b .nil pass0 (pa_cons (pv 11) (pa_cons (pv 11) pa_nil))) pa_nil)))) (pa_cons (pe_op op_cat (pv 14) (pe_lst (pa_cons (pe_op op_sub pe_int (pv 13)) (pa_cons pe_int pa_nil)))) pa_nil))))) (pss_one (ps_ret pe_bl)) pss_nil)
    (pss_cons (ps_set (i := 15) sc_law.nd rfl (Or.inl rfl) (pe_call (ok_law_ratio_text T) (hr.mono (by decide)) rfl T.d_law_ratio_text.m T.d_law_ratio_text.F.kp T.d_law_ratio_text.b .nil pass0 (pa_cons (pv 10) pa_nil)))
    (pss_one (ps_if (pt_not (pt_val (pe_call (ok_same T) (hr.mono (by decide)) rfl T.d_same.m T.d_same.F.kp T.d_same.b .nil pass0 (pa_cons (pe_lst (pa_cons (pe_call (ok_ratio_text T) (hr.mono (by decide)) rfl T.d_ratio_text.m T.d_ratio_text.F.kp T.d_ratio_text.b .nil pass0 (pa_cons (pv 10) pa_nil)) (pa_cons (pe_call (ok_parse_ratio T) (hr.mono (by decide)) rfl T.d_parse_ratio.m T.d_parse_ratio.F.kp T.d_parse_ratio.b .nil pass0 (pa_cons (pv 15) pa_nil)) pa_nil))) (pa_cons (pe_lst (pa_cons (pv 15) (pa_cons (pv 10) pa_nil))) pa_nil))))) (pss_one (ps_ret pe_bl)) pss_nil)))))))))))))))))
    (pss_cons (ps_set (i := 15) sc_law.nd rfl (Or.inl rfl) (pe_op op_add_str pe_str (pe_op op_mulS pe_str (pe_op op_add pe_int (pe_call (ok_pull T) (hr.mono (by decide)) rfl T.d_pull.m T.d_pull.F.kp T.d_pull.b .nil pass0 (pa_cons (pv 1) (pa_cons pe_int pa_nil)))))))
    (pss_cons (ps_set (i := 9) sc_law.nd rfl (Or.inl rfl) (pe_lst (pa_cons (pe_call (ok_ratio_text T) (hr.mono (by decide)) rfl T.d_ratio_text.m T.d_ratio_text.F.kp T.d_ratio_text.b .nil pass0 (pa_cons (pe_tup (pa_cons (pe_callTy (call_int_any hdig) (by rfl) T.int (by decide +kernel) (pa_cons (pv 15) pa_nil)) (pa_cons pe_int pa_nil))) pa_nil)) (pa_cons (pe_call (ok_ratio_text T) (hr.mono (by decide)) rfl T.d_ratio_text.m T.d_ratio_text.F.kp T.d_ratio_text.b .nil pass0 (pa_cons (pe_tup (pa_cons (pe_un un_neg pe_int) (pa_cons (pe_callTy (call_int_any hdig) (by rfl) T.int (by decide +kernel) (pa_cons (pv 15) pa_nil)) pa_nil))) pa_nil)) pa_nil))))
    (pss_cons (ps_if (pt_not (pt_val (pe_call (ok_same T) (hr.mono (by decide)) rfl T.d_same.m T.d_same.F.kp T.d_same.b .nil pass0 (pa_cons (pv 9) (pa_cons (pe_lst (pa_cons (pv 15) (pa_cons (pe_op op_add_str pe_str (pv 15)) pa_nil))) pa_nil))))) (pss_one (ps_ret pe_bl)) pss_nil)
    (pss_one (ps_ret (pe_call (ok_same T) (hr.mono (by decide)) rfl T.d_same.m T.d_same.F.kp T.d_same.b .nil pass0 (pa_cons (pe_callN (ok_plus T) (hr.mono (by decide)) rfl T.d_plus.m T.d_plus.F.kp pass0 (pa_cons (pe_tup (pa_cons (pe_op op_sub (pe_op op_pow pe_int pe_int) pe_int) (pa_cons pe_int pa_nil))) (pa_cons (pe_tup (pa_cons pe_int (pa_cons (pe_op op_sub (pe_op op_pow pe_int pe_int) pe_int) pa_nil))) pa_nil))) (pa_cons (pe_call (ok_add T) (hr.mono (by decide)) rfl T.d_add.m T.d_add.F.kp T.d_add.b .nil pass0 (pa_cons (pe_tup (pa_cons (pe_op op_sub (pe_op op_pow pe_int pe_int) pe_int) (pa_cons pe_int pa_nil))) (pa_cons (pe_tup (pa_cons pe_int (pa_cons (pe_op op_sub (pe_op op_pow pe_int pe_int) pe_int) pa_nil))) pa_nil))) pa_nil)))))))))), ?_⟩
  refine ⟨_, rfl, a0, ns, rfl, hS, h63, fun b l H1 e1 hb hl B => ?_⟩
  refine ⟨5, rfl, by decide, by decide, ?_⟩
  refine for_range (n := 5) (fun _ σ H' => Bag H' b l ∧ ∃ u0 u2 u3 u4 u5 u6 u7 u8 u9 u10 u11 u12 u13 u14 u15 u16 u17 : Option V, σ = [u0, some (.ref b), u2, u3, u4, u5, u6, u7, u8, u9, u10, u11, u12, u13, u14, u15, u16, u17]) ⟨B, _, _, _, _, _, _, _, _, _, _, _, _, _, _, _, _, _, rfl⟩ ?_ ?_
  · clear B e1 hb hl
    rintro i σ H1 hi ⟨B, u0, u2, u3, u4, u5, u6, u7, u8, u9, u10, u11, u12, u13, u14, u15, u16, u17, rfl⟩
    refine ⟨3, rfl, by decide, by decide, fun D hD => ?_⟩
    refine lc_range (lo := 0) (n := 3) (Ints 0 H1 b l D) (ints_start B hD) ?_ ?_
    · intro j H3 hj h
      obtain ⟨B3, _, zs, hzs, hlen, _⟩ := id h
      refine ⟨rfl, ⟨_, rfl, b, l, rfl, B3, fun r H4 r0 r1 ap4 B4 => ?_⟩⟩
      exact ⟨zs.map V.int, ap4 _ _ (B.ne hD) hzs, sl_lt (by rw [List.length_map]; omega), ints_step B hD h hzs ap4 B4 r0 r1⟩
    rintro H2 ⟨B2, ap2, zs, hzs, hlen, hz⟩
    obtain ⟨a, bb, c, rfl⟩ : ∃ a bb c, zs = [a, bb, c] := by
      match zs, hlen with
      | [a, bb, c], _ => exact ⟨_, _, _, rfl⟩
    obtain ⟨a0, a1⟩ := hz a (by simp)
    obtain ⟨b0, b1⟩ := hz bb (by simp)
    obtain ⟨c0, c1⟩ := hz c (by simp)
    refine ⟨D, _, rfl, SqL.of hzs, rfl, _, _, rfl, _, _, rfl, _, _, rfl, rfl, ?_⟩
    refine ⟨3, rfl, by decide, by decide, fun D2 hD2 => ?_⟩
    refine lc_range (lo := 0) (n := 3) (Ints 1 H2 b l D2) (ints_start B2 hD2) ?_ ?_
    · intro j H3 hj h
      obtain ⟨B3, _, zs, hzs, hlen, _⟩ := id h
      refine ⟨rfl, ⟨_, rfl, b, l, rfl, B3, fun r H4 r0 r1 ap4 B4 => ⟨1, r, rfl, ?_⟩⟩⟩
      exact ⟨zs.map V.int, ap4 _ _ (B2.ne hD2) hzs, sl_lt (by rw [List.length_map]; omega), ints_step B2 hD2 h hzs ap4 B4 (by split <;> omega) (by split; exact r1; decide)⟩
    rintro H3 ⟨B3, ap3, ds, hds, hdl, hdd⟩
    obtain ⟨d0, d1, d2, rfl⟩ : ∃ a bb c, ds = [a, bb, c] := by
      match ds, hdl with
      | [a, bb, c], _ => exact ⟨_, _, _, rfl⟩
    obtain ⟨d00, d01⟩ := hdd d0 (by simp)
    obtain ⟨d10, d11⟩ := hdd d1 (by simp)
    obtain ⟨d20, d21⟩ := hdd d2 (by simp)
    -- the pairs
    refine ⟨_, rfl, _, rfl, .inl ⟨D2, _, _, _, rfl, rfl, SqL.of hds, at_of (j := 0) rfl rfl, slr rfl, fun t1 ht1 => ?_⟩⟩
    have s4 := Same.new ht1 (.tup [V.int a, V.int d0])
    have p1 : upd H3 t1 (.tup [V.int a, V.int d0]) t1 = _ := upd_same
    generalize upd H3 t1 (.tup [V.int a, V.int d0]) = H4 at s4 p1
    refine ⟨_, rfl, _, _, rfl, rfl, _, rfl, .inl ⟨D2, _, _, _, rfl, rfl, SqL.of (s4 _ _ hds), at_of (j := 1) rfl rfl, slr rfl, fun t2 ht2 => ?_⟩⟩
    have s5 := Same.new ht2 (.tup [V.int (0 - bb), V.int d1])
    have p2 : upd H4 t2 (.tup [V.int (0 - bb), V.int d1]) t2 = _ := upd_same
    generalize upd H4 t2 (.tup [V.int (0 - bb), V.int d1]) = H5 at s5 p2
    have B5 := B3.same (s4.trans s5)
    refine ⟨_, rfl, _, rfl, b, l, 3, rfl, B5, by decide, p9 (by decide), fun x H6 x0 x1 ap6 B6 => ⟨_, _, rfl, rfl, _, _, rfl, rfl, ⟨by decide, by decide, by decide⟩, _, _, rfl, rfl, _, _, rfl, ?_⟩⟩
    have hds6 := ap6 _ _ (B2.ne hD2) ((s4.trans s5) _ _ hds)
    obtain ⟨m, em⟩ : ∃ m : Int, m = (if (10 : Int) ^ (30 : Int).toNat - 1 < a + x then (10 : Int) ^ (30 : Int).toNat - 1 else a + x) := ⟨_, rfl⟩
    rw [← em]
    have e30 : (10 : Int) ^ (30 : Int).toNat = 10 ^ 30 := by decide
    rw [e30] at em
    have m0 : 0 ≤ m ∧ m < 10 ^ 30 := by
      rw [em]
      split <;> omega
    refine ⟨_, rfl, .inl ⟨D2, _, _, _, rfl, rfl, SqL.of hds6, at_of (j := 0) rfl rfl, slr rfl, fun t3 ht3 => ?_⟩⟩
    have s7 := Same.new ht3 (.tup [V.int m, V.int d0])
    have p3 : upd H6 t3 (.tup [V.int m, V.int d0]) t3 = _ := upd_same
    generalize upd H6 t3 (.tup [V.int m, V.int d0]) = H7 at s7 p3
    refine ⟨slr rfl, fun Lp hLp => ?_⟩
    have s8 := Same.new hLp (.lst [V.ref t1, V.ref t2, V.ref t3])
    have hL : upd H7 Lp (.lst [V.ref t1, V.ref t2, V.ref t3]) Lp = _ := upd_same
    generalize upd H7 Lp (.lst [V.ref t1, V.ref t2, V.ref t3]) = H8 at s8 hL
    have hds8 := (s7.trans s8) _ _ hds6
    have B8 := B6.same (s7.trans s8)
    have keep : ∀ t xs, H5 t = some (.tup xs) → H8 t = some (.tup xs) := fun t xs z => (s7.trans s8) _ _ (ap6 _ _ (B5.nt z) z)
    obtain ⟨ps, eps⟩ : ∃ ps : List Pr, ps = [(a, d0), (0 - bb, d1), (m, d0)] := ⟨_, rfl⟩
    have hP : Paired (IsP H8) [V.ref t1, V.ref t2, V.ref t3] ps := by
      rw [eps]
      exact .cons ⟨t1, rfl, keep _ _ (s5 _ _ p1)⟩ (.cons ⟨t2, rfl, keep _ _ p2⟩ (.cons ⟨t3, rfl, s8 _ _ p3⟩ .nil))
    have hlow : ∀ p ∈ ps, Lows p := by
      rw [eps]
      intro p hp
      rcases List.mem_cons.mp hp with rfl | hp
      · exact ⟨by show 0 < d0; omega, d01, by show a.natAbs < _; omega⟩
      rcases List.mem_cons.mp hp with rfl | hp
      · exact ⟨by show 0 < d1; omega, d11, by show (0 - bb).natAbs < _; omega⟩
      · rw [List.mem_singleton.mp hp]
        exact ⟨by show 0 < d0; omega, d01, by show m.natAbs < _; omega⟩
    have hpl : ps.length = 3 := by rw [eps]; rfl
    clear keep p1 p2 p3 s4 s5 s7 s8 ap6 B6 B5 hds6
    -- parts
    refine ⟨_, rfl, Lp, rfl, ⟨_, SqL.of hL⟩, fun D3 hD3 => ?_⟩
    refine lc_list (K := K) (xs := [V.ref t1, V.ref t2, V.ref t3]) (FrI H8 D3 ps) (fri_start hD3) (fun j H' _ h => SqL.of (h.1 _ _ hL)) ?_ ?_
    · intro j x H9 hj h
      obtain ⟨p, hp, hv⟩ := paired_at1 hP hj
      obtain ⟨t, rfl, ht⟩ := hv.mono h.1
      have lw := hlow p (List.mem_of_getElem? hp)
      have := (List.getElem?_eq_some_iff.mp hp).1
      refine ⟨rfl, ⟨_, rfl, .inr (.inl ⟨t, _, _, _, rfl, rfl, SqT.of ht, at_of (j := 0) rfl rfl, _, rfl, .inr (.inl ⟨t, _, _, _, rfl, rfl, SqT.of ht, at_of (j := 1) rfl rfl, p.1, p.2, rfl, lw.1, lw.big, fun r H10 e10 _ hr10 => ?_⟩)⟩)⟩⟩
      obtain ⟨acc, k1, k2, k3⟩ := fri_step hD3 h hp e10 hr10
      exact ⟨acc, k1, sl_lt (by omega), k3⟩
    rintro H9 ⟨e9, us, hus, hul, hR⟩
    rw [show ([V.ref t1, V.ref t2, V.ref t3] : List V).length = 3 from rfl, ← hpl, List.take_length] at hR
    -- told
    refine ⟨_, rfl, Lp, rfl, ⟨_, SqL.of (e9 _ _ hL)⟩, fun D4 hD4 => ?_⟩
    refine lc_list (K := K) (xs := [V.ref t1, V.ref t2, V.ref t3]) (FrI H9 D4 ps) (fri_start hD4) (fun j H' _ h => SqL.of (h.1 _ _ (e9 _ _ hL))) ?_ ?_
    · intro j x H9 hj h
      obtain ⟨p, hp, hv⟩ := paired_at1 hP hj
      obtain ⟨t, rfl, ht⟩ := hv.mono (e9.trans h.1)
      have lw := hlow p (List.mem_of_getElem? hp)
      have := (List.getElem?_eq_some_iff.mp hp).1
      refine ⟨rfl, ⟨_, rfl, .inr (.inl ⟨t, _, _, _, rfl, rfl, SqT.of ht, at_of (j := 0) rfl rfl, _, rfl, .inr (.inl ⟨t, _, _, _, rfl, rfl, SqT.of ht, at_of (j := 1) rfl rfl, p.1, p.2, rfl, Int.ne_of_gt lw.1, lw.big, fun r H10 e10 _ hr10 => ?_⟩)⟩)⟩⟩
      obtain ⟨acc, k1, k2, k3⟩ := fri_step hD4 h hp e10 hr10
      exact ⟨acc, k1, sl_lt (by omega), k3⟩
    rintro H10 ⟨e10, vs4, hvs, hvl, hR4⟩
    rw [show ([V.ref t1, V.ref t2, V.ref t3] : List V).length = 3 from rfl, ← hpl, List.take_length] at hR4
    have d2b : (0 - d2).natAbs < 2 ^ 8000 := Nat.lt_of_lt_of_le (show (0 - d2).natAbs < 10 ^ 30 by omega) (Nat.le_trans (Nat.le_of_lt ten30) (RM.pow_le (by decide)))
    have d2c : d2.natAbs < 2 ^ 8000 := Nat.lt_of_lt_of_le (show d2.natAbs < 10 ^ 30 by omega) (Nat.le_trans (Nat.le_of_lt ten30) (RM.pow_le (by decide)))
    refine ⟨_, rfl, _, _, rfl, rfl, _, rfl, .inl ⟨D2, _, _, _, rfl, rfl, SqL.of ((e9.trans e10) _ _ hds8), at_of (j := 2) rfl rfl, _, _, rfl, rfl, 0 - c, 0 - d2, rfl, by omega, d2b, fun r H11 e11 _ hr11 => ⟨slr rfl, fun L1 hL1 => ?_⟩⟩⟩
    have e12 := Same.new hL1 (.lst [V.ref r])
    have g12 : upd H11 L1 (.lst [V.ref r]) L1 = _ := upd_same
    generalize upd H11 L1 (.lst [V.ref r]) = H12 at e12 g12
    refine ⟨D4, L1, vs4, _, rfl, rfl, (e11.trans e12) _ _ hvs, g12, sl_small (by rw [hvl]; show 3 + 1 ≤ 100000; decide), fun Lt hLt => ?_⟩
    have e13 := Same.new hLt (.lst (vs4 ++ [V.ref r]))
    have g13 : upd H12 Lt (.lst (vs4 ++ [V.ref r])) Lt = _ := upd_same
    generalize upd H12 Lt (.lst (vs4 ++ [V.ref r])) = H13 at e13 g13
    have E13 := ((e9.trans e10).trans (e11.trans e12)).trans e13
    refine ⟨_, rfl, _, rfl, _, rfl, _, rfl, .inl ⟨D2, _, _, _, rfl, rfl, SqL.of (E13 _ _ hds8), at_of (j := 2) rfl rfl, c, d2, rfl, by omega, d2c, fun r2 H14 e14 _ hr14 => ⟨slr rfl, fun L2 hL2 => ?_⟩⟩⟩
    have e15 := Same.new hL2 (.lst [V.ref r2])
    have g15 : upd H14 L2 (.lst [V.ref r2]) L2 = _ := upd_same
    generalize upd H14 L2 (.lst [V.ref r2]) = H15 at e15 g15
    have E15 := ((e10.trans (e11.trans e12)).trans e13).trans (e14.trans e15)
    refine ⟨D3, L2, us, _, rfl, rfl, E15 _ _ hus, g15, sl_small (by rw [hul]; show 3 + 1 ≤ 100000; decide), fun Ld hLd => ?_⟩
    have e16 := Same.new hLd (.lst (us ++ [V.ref r2]))
    have g16 : upd H15 Ld (.lst (us ++ [V.ref r2])) Ld = _ := upd_same
    generalize upd H15 Ld (.lst (us ++ [V.ref r2])) = H16 at e16 g16
    have E16 := E15.trans e16
    have q1 : RL H16 (vs4 ++ [V.ref r]) (ps.map fr ++ [Rat.divInt c d2]) := by
      refine paired_snoc ⟨r, rfl, ?_⟩ (hR4.mono ((((e11.trans e12).trans e13).trans (e14.trans e15)).trans e16))
      rw [show (0 : Int) - c = -c by omega, show (0 : Int) - d2 = -d2 by omega, Rat.neg_divInt_neg] at hr11
      exact (((e12.trans e13).trans (e14.trans e15)).trans e16) _ _ hr11
    have q2 : RL H16 (us ++ [V.ref r2]) (ps.map fr ++ [Rat.divInt c d2]) := paired_snoc ⟨r2, rfl, (e15.trans e16) _ _ hr14⟩ (hR.mono E16)
    refine ⟨_, _, rfl, eqL ((e14.trans (e15.trans e16)) _ _ g13) g16 (eqRL q1 q2) (by rw [List.length_append, hvl]; show 3 + 1 ≤ 100000; decide), fun H17 e17 => ⟨_, rfl, iteF ?_⟩⟩
    have E17 := E16.trans e17
    clear q1 q2 g16 g15 g13 g12 e10 e11 e12 e13 e14 e15 e16 hR4 hr14 hr11 E15 E16 E13
    -- lowest terms
    have hL17 := (e9.trans E17) _ _ hL
    refine ⟨_, rfl, Lp, rfl, ⟨_, SqL.of hL17⟩, fun D5 hD5 => ?_⟩
    refine lc_list (K := K) (xs := [V.ref t1, V.ref t2, V.ref t3]) (BlI (fun p => frP [p.1, p.2]) H17 D5 ps) (bli_start hD5) (fun j H' _ h => SqL.of (h.1 _ _ hL17)) ?_ ?_
    · intro j x H9 hj h
      obtain ⟨p, hp, hv⟩ := paired_at1 hP hj
      obtain ⟨t, rfl, ht⟩ := hv.mono ((e9.trans E17).trans h.1)
      have := (List.getElem?_eq_some_iff.mp hp).1
      refine ⟨rfl, ⟨_, rfl, t, [p.1, p.2], rfl, ht, by show 2 ≤ 100; decide, fun H10 e10 => ?_⟩⟩
      obtain ⟨acc, k1, k2, k3⟩ := bli_step hD5 h hp e10
      exact ⟨acc, k1, sl_lt (by omega), k3⟩
    rintro H18 ⟨e18, hb5⟩
    rw [show ([V.ref t1, V.ref t2, V.ref t3] : List V).length = 3 from rfl, ← hpl, List.take_length] at hb5
    have hL18 := e18 _ _ hL17
    refine ⟨_, rfl, _, rfl, Lp, rfl, ⟨_, SqL.of hL18⟩, fun D6 hD6 => ?_⟩
    refine lc_list (K := K) (xs := [V.ref t1, V.ref t2, V.ref t3]) (BlI (fun p => decide (V.int ((Int.gcd p.1 p.2 : Nat) : Int) = V.int 1)) H18 D6 ps) (bli_start hD6) (fun j H' _ h => SqL.of (h.1 _ _ hL18)) ?_ ?_
    · intro j x H9 hj h
      obtain ⟨p, hp, hv⟩ := paired_at1 hP hj
      obtain ⟨t, rfl, ht⟩ := hv.mono (((e9.trans E17).trans e18).trans h.1)
      have lw := hlow p (List.mem_of_getElem? hp)
      have := (List.getElem?_eq_some_iff.mp hp).1
      obtain ⟨acc, k1, k2, k3⟩ := bli_step hD6 h hp (Same.refl _)
      refine ⟨rfl, ⟨_, rfl, .inr (.inl ⟨t, _, _, _, rfl, rfl, SqT.of ht, at_of (j := 0) rfl rfl, _, rfl, .inr (.inl ⟨t, _, _, _, rfl, rfl, SqT.of ht, at_of (j := 1) rfl rfl, p.1, p.2, rfl, Int.le_of_lt lw.1, rfl, acc, k1, sl_lt (by omega), k3⟩)⟩)⟩⟩
    rintro H19 ⟨e19, hb6⟩
    rw [show ([V.ref t1, V.ref t2, V.ref t3] : List V).length = 3 from rfl, ← hpl, List.take_length] at hb6
    refine ⟨_, _, rfl, eqL (e19 _ _ hb5) hb6 (eqBL fun p hp => ?_) (by rw [List.length_map, hpl]; decide), fun H20 e20 => ⟨_, rfl, iteF ?_⟩⟩
    · have lw := hlow p hp
      show (decide (0 < p.2) && decide (Int.gcd p.1 p.2 = 1)) = _
      rw [decide_eq_true lw.1, Bool.true_and]
      exact decide_eq_decide.mpr ⟨fun z => by rw [z]; rfl, fun z => by injection z with z; omega⟩
    have E20 := (E17.trans e18).trans (e19.trans e20)
    have B20 : Bag H20 b l := B8.same (e9.trans E20)
    have hus := E20 _ _ hus
    have hR := hR.mono E20
    clear hb5 hb6 E17 e18 e19 e20 hL17 hL18 e17
    obtain ⟨v1, v2, v3, X, Y, Z, rfl, i1, i2, i3, bX, bY, bZ, xn, xd⟩ : ∃ (v1 v2 v3 : V) (X Y Z : Rat), us = [v1, v2, v3] ∧ IsR H20 v1 X ∧ IsR H20 v2 Y ∧ IsR H20 v3 Z ∧ RM.Bd 100 X ∧ RM.Bd 100 Y ∧ RM.Bd 100 Z ∧ X.num.natAbs < 10 ^ 30 ∧ X.den < 10 ^ 30 := by
      have lw1 := hlow (a, d0) (by rw [eps]; simp)
      have lw2 := hlow (0 - bb, d1) (by rw [eps]; simp)
      have lw3 := hlow (m, d0) (by rw [eps]; simp)
      rw [eps] at hR
      match us, hR with
      | _, .cons k1 (.cons k2 (.cons k3 .nil)) => exact ⟨_, _, _, _, _, _, rfl, k1, k2, k3, lw1.bd, lw2.bd, lw3.bd, lw1.num, lw1.den⟩
    clear hR hlow hP hds8 hL hul hvl hvs e9 B8
    have R2 : ∀ {H'}, Same H20 H' → RL H' [v1, v2] [X, Y] := fun e => .cons (i1.mono e) (.cons (i2.mono e) .nil)
    have R3 : ∀ {H'}, Same H20 H' → RL H' [v1, v2, v3] [X, Y, Z] := fun e => .cons (i1.mono e) (.cons (i2.mono e) (.cons (i3.mono e) .nil))
    have A2 : AllBd 100 [X, Y] := AllBd.cons bX (AllBd.cons bY AllBd.nil)
    have A3 : AllBd 100 [X, Y, Z] := AllBd.cons bX (AllBd.cons bY (AllBd.cons bZ AllBd.nil))
    refine ⟨_, rfl, D3, _, rfl, SqL.of hus, rfl, _, _, rfl, _, _, rfl, _, _, rfl, rfl, ?_⟩
    refine ⟨_, rfl, _, rfl, [X, Y], 100, R2 (Same.refl _), A2, sz rfl, fun ra Ha ea _ ha => ?_⟩
    refine ⟨_, rfl, _, rfl, _, rfl, [X, Y, Z], 100, R3 ea, A3, sz rfl, fun rb Hb eb _ hb => ?_⟩
    have Eb := ea.trans eb
    refine ⟨_, rfl, _, rfl, [X, Y], 100, R2 Eb, A2, sz rfl, fun rc Hc ec _ hc => ?_⟩
    have Ec := Eb.trans ec
    refine ⟨_, rfl, true, D3, _, [X, Y, Z], 100, rfl, Ec _ _ hus, R3 Ec, A3, sz rfl, fun rd Hd ed _ hd => ?_⟩
    have Ed := Ec.trans ed
    refine ⟨_, rfl, _, Y, rfl, i2.mono Ed, fun re He ee _ he => ?_⟩
    have Ee := Ed.trans ee
    refine ⟨_, rfl, _, rfl, _, _, X, Z, 100, 100, rfl, i1.mono Ee, i3.mono Ee, bX, bZ, by decide, slr rfl, fun Lo hLo => ?_⟩
    have eo := Same.new hLo (.lst [V.ref ra, V.ref rb, V.ref rc, V.ref rd, V.ref re, V.int (signR X Z)])
    have go : upd He Lo (.lst [V.ref ra, V.ref rb, V.ref rc, V.ref rd, V.ref re, V.int (signR X Z)]) Lo = _ := upd_same
    generalize upd He Lo (.lst [V.ref ra, V.ref rb, V.ref rc, V.ref rd, V.ref re, V.int (signR X Z)]) = Ho at eo go
    have Eo := Ee.trans eo
    have ka := (eb.trans (ec.trans (ed.trans (ee.trans eo)))) _ _ ha
    have kb := (ec.trans (ed.trans (ee.trans eo))) _ _ hb
    have kc := (ed.trans (ee.trans eo)) _ _ hc
    have kd := (ee.trans eo) _ _ hd
    have ke := eo _ _ he
    refine ⟨_, rfl, _, rfl, _, _, Z, X, 100, 100, rfl, i3.mono Eo, i1.mono Eo, bZ, bX, by decide, .inr ⟨_, rfl, _, rfl, _, rfl, _, _, X, Z, 100, 100, rfl, i1.mono Eo, i3.mono Eo, bX, bZ, by decide, .inr ⟨_, rfl, _, _, rfl, rfl, ?_⟩⟩⟩
    refine ⟨_, rfl, _, rfl, _, _, X, Y, 100, 100, rfl, i1.mono Eo, i2.mono Eo, bX, bY, by decide, fun rf Hf ef _ hf => ?_⟩
    have Ef := Eo.trans ef
    refine ⟨_, rfl, D3, _, [X, Y, Z], 100, rfl, Ef _ _ hus, R3 Ef, A3, sz rfl, fun rg Hg eg _ hg => ?_⟩
    have Eg := Ef.trans eg
    refine ⟨_, rfl, _, rfl, _, _, X, Y, 100, 100, rfl, i1.mono Eg, i2.mono Eg, bX, bY, by decide, fun rh Hh eh _ hh => ?_⟩
    have Eh := Eg.trans eh
    refine ⟨_, rfl, D3, _, [X, Y, Z], 100, rfl, Eh _ _ hus, R3 Eh, A3, sz rfl, fun ri Hi ei _ hi2 => ?_⟩
    have Ei := Eh.trans ei
    refine ⟨_, rfl, _, Y, rfl, i2.mono Ei, fun rj Hj ej _ hj => ?_⟩
    refine ⟨_, rfl, slr rfl, fun Lu hLu => ?_⟩
    have eu := Same.new hLu (.lst [V.ref rf, V.ref rg, V.ref rh, V.ref ri, V.ref rj, V.int ((if decide (Z < X) = true then (1 : Int) else 0) - (if decide (X < Z) = true then (1 : Int) else 0))])
    have gu : upd Hj Lu (.lst [V.ref rf, V.ref rg, V.ref rh, V.ref ri, V.ref rj, V.int ((if decide (Z < X) = true then (1 : Int) else 0) - (if decide (X < Z) = true then (1 : Int) else 0))]) Lu = _ := upd_same
    generalize upd Hj Lu (.lst [V.ref rf, V.ref rg, V.ref rh, V.ref ri, V.ref rj, V.int ((if decide (Z < X) = true then (1 : Int) else 0) - (if decide (X < Z) = true then (1 : Int) else 0))]) = Hu at eu gu
    have Eu := Ei.trans (ej.trans eu)
    have eou := ef.trans (eg.trans (eh.trans (ei.trans (ej.trans eu))))
    have kf := (eg.trans (eh.trans (ei.trans (ej.trans eu)))) _ _ hf
    have kg := (eh.trans (ei.trans (ej.trans eu))) _ _ hg
    have kh := (ei.trans (ej.trans eu)) _ _ hh
    have ki := (ej.trans eu) _ _ hi2
    have kj := eu _ _ hj
    refine ⟨_, rfl, _, rfl, _, rfl, _, _, Z, X, 100, 100, rfl, i3.mono Eu, i1.mono Eu, bZ, bX, by decide, _, rfl, _, rfl, _, _, Y, Y, 100, 100, rfl, i2.mono Eu, i2.mono Eu, bY, bY, by decide, slr rfl, fun l1 hl1 => ?_⟩
    have ev := Same.new hl1 (.lst [V.int (signR Z X), V.int (signR Y Y)])
    have gv : upd Hu l1 (.lst [V.int (signR Z X), V.int (signR Y Y)]) l1 = _ := upd_same
    generalize upd Hu l1 (.lst [V.int (signR Z X), V.int (signR Y Y)]) = Hv at ev gv
    refine ⟨Lo, l1, _, _, rfl, rfl, (eou.trans ev) _ _ go, gv, slr rfl, fun l2 hl2 => ?_⟩
    have ew := Same.new hl2 (.lst ([V.ref ra, V.ref rb, V.ref rc, V.ref rd, V.ref re, V.int (signR X Z)] ++ [V.int (signR Z X), V.int (signR Y Y)]))
    have gw : upd Hv l2 (.lst ([V.ref ra, V.ref rb, V.ref rc, V.ref rd, V.ref re, V.int (signR X Z)] ++ [V.int (signR Z X), V.int (signR Y Y)])) l2 = _ := upd_same
    generalize upd Hv l2 (.lst ([V.ref ra, V.ref rb, V.ref rc, V.ref rd, V.ref re, V.int (signR X Z)] ++ [V.int (signR Z X), V.int (signR Y Y)])) = Hw at ew gw
    refine ⟨_, rfl, _, rfl, _, _, rfl, rfl, slr rfl, fun l3 hl3 => ?_⟩
    have ex := Same.new hl3 (.lst [V.int (0 - ((if decide (Z < X) = true then (1 : Int) else 0) - (if decide (X < Z) = true then (1 : Int) else 0))), V.int 0])
    have gx : upd Hw l3 (.lst [V.int (0 - ((if decide (Z < X) = true then (1 : Int) else 0) - (if decide (X < Z) = true then (1 : Int) else 0))), V.int 0]) l3 = _ := upd_same
    generalize upd Hw l3 (.lst [V.int (0 - ((if decide (Z < X) = true then (1 : Int) else 0) - (if decide (X < Z) = true then (1 : Int) else 0))), V.int 0]) = Hx at ex gx
    refine ⟨Lu, l3, _, _, rfl, rfl, ((ev.trans ew).trans ex) _ _ gu, gx, slr rfl, fun l4 hl4 => ?_⟩
    have ey := Same.new hl4 (.lst ([V.ref rf, V.ref rg, V.ref rh, V.ref ri, V.ref rj, V.int ((if decide (Z < X) = true then (1 : Int) else 0) - (if decide (X < Z) = true then (1 : Int) else 0))] ++ [V.int (0 - ((if decide (Z < X) = true then (1 : Int) else 0) - (if decide (X < Z) = true then (1 : Int) else 0))), V.int 0]))
    have gy : upd Hx l4 (.lst ([V.ref rf, V.ref rg, V.ref rh, V.ref ri, V.ref rj, V.int ((if decide (Z < X) = true then (1 : Int) else 0) - (if decide (X < Z) = true then (1 : Int) else 0))] ++ [V.int (0 - ((if decide (Z < X) = true then (1 : Int) else 0) - (if decide (X < Z) = true then (1 : Int) else 0))), V.int 0])) l4 = _ := upd_same
    generalize upd Hx l4 (.lst ([V.ref rf, V.ref rg, V.ref rh, V.ref ri, V.ref rj, V.int ((if decide (Z < X) = true then (1 : Int) else 0) - (if decide (X < Z) = true then (1 : Int) else 0))] ++ [V.int (0 - ((if decide (Z < X) = true then (1 : Int) else 0) - (if decide (X < Z) = true then (1 : Int) else 0))), V.int 0])) = Hy at ey gy
    have evy := ev.trans (ew.trans (ex.trans ey))
    have eoy := eou.trans evy
    refine ⟨_, _, rfl, eqL ((ex.trans ey) _ _ gw) gy (.cons (eqR ⟨ra, rfl, eoy _ _ ka⟩ ⟨rf, rfl, ?_⟩) (.cons (eqR ⟨rb, rfl, eoy _ _ kb⟩ ⟨rg, rfl, evy _ _ kg⟩) (.cons (eqR ⟨rc, rfl, eoy _ _ kc⟩ ⟨rh, rfl, ?_⟩) (.cons (eqR ⟨rd, rfl, eoy _ _ kd⟩ ⟨ri, rfl, evy _ _ ki⟩) (.cons (eqR ⟨re, rfl, eoy _ _ ke⟩ ⟨rj, rfl, evy _ _ kj⟩) (.cons (eqI2 (sign_less X Z).symm) (.cons (eqI2 (by rw [sign_less]; exact sign_swap X Z)) (.cons (eqI2 (sign_self Y)) .nil)))))))) (by show 8 ≤ 100000; decide), fun H21 e21 => ⟨_, rfl, iteF ?_⟩⟩
    · rw [sum2]
      exact evy _ _ kf
    · rw [mul2]
      exact evy _ _ kh
    have E21 := Eu.trans (evy.trans e21)
    clear ka kb kc kd ke kf kg kh ki kj go gu gv gw gx gy eoy evy eou R2 R3 A2 A3
    obtain ⟨p1, rfl, h1⟩ := i1
    have h1 := E21 _ _ h1
    have B21 := B20.same E21
    have big : (10 : Nat) ^ 30 ≤ 10 ^ 64000 := Nat.pow_le_pow_right (by decide) (by decide)
    refine ⟨_, rfl, p1, X, rfl, h1, xn, xd, ?_⟩
    refine ⟨_, rfl, p1, _, _, rfl, SqT.of h1, Nat.lt_of_lt_of_le xn big, Nat.lt_of_lt_of_le (show ((X.den : Nat) : Int).natAbs < 10 ^ 30 by omega) big, fun H22 e22 => ?_⟩
    rw [PT.rt_tx]
    refine ⟨_, rfl, X, rfl, xn, xd, fun rp H23 e23 _ h23 => ⟨slr rfl, fun l5 hl5 => ?_⟩⟩
    have e24 := Same.new hl5 (.lst [V.str (PT.tx (PT.rt X)), V.ref rp])
    have g24 : upd H23 l5 (.lst [V.str (PT.tx (PT.rt X)), V.ref rp]) l5 = _ := upd_same
    generalize upd H23 l5 (.lst [V.str (PT.tx (PT.rt X)), V.ref rp]) = H24 at e24 g24
    refine ⟨_, rfl, _, rfl, slr rfl, fun l6 hl6 => ?_⟩
    have e25 := Same.new hl6 (.lst [V.str (PT.tx (PT.rt X)), V.ref p1])
    have g25 : upd H24 l6 (.lst [V.str (PT.tx (PT.rt X)), V.ref p1]) l6 = _ := upd_same
    generalize upd H24 l6 (.lst [V.str (PT.tx (PT.rt X)), V.ref p1]) = H25 at e25 g25
    have E25 := e22.trans (e23.trans (e24.trans e25))
    refine ⟨_, _, rfl, eqL (e25 _ _ g24) g25 (.cons (eqS rfl) (.cons (eqR ⟨rp, rfl, (e24.trans e25) _ _ h23⟩ ⟨p1, rfl, E25 _ _ h1⟩) .nil)) (by show 2 ≤ 100000; decide), fun H26 e26 => ⟨_, rfl, iteF ?_⟩⟩
    exact ⟨B21.same (E25.trans e26), _, _, _, _, _, _, _, _, _, _, _, _, _, _, _, _, _, rfl⟩
  · rintro σ H1 ⟨B, u0, u2, u3, u4, u5, u6, u7, u8, u9, u10, u11, u12, u13, u14, u15, u16, u17, rfl⟩
    refine ⟨_, rfl, b, l, 3940, rfl, B, by decide, p9 (by decide), fun x H2 x0 x1 ap2 B2 => ⟨_, _, rfl, rfl, _, _, rfl, rfl, PyProof.Rows.mulOk_of 1 4000 (by decide) (by omega) (by omega) (by decide) (by decide), _, _, rfl, rfl, ?_, ?_⟩⟩
    · have := PyProof.Rows.len_mul_leN (L := 1) (N := 4000) (x := Str.ofString "0") (by decide) (n := 60 + x) (by omega)
      exact sl_small (by show 1 + (Txt.mul (Str.ofString "0") (60 + x)).length ≤ _; omega)
    rw [PT.pow_tx]
    obtain ⟨n, hn⟩ : ∃ n : Nat, n = (60 + x).toNat := ⟨_, rfl⟩
    rw [← hn]
    have n0 : 60 ≤ n ∧ n < 4000 := by omega
    have len : (PT.sg (((10 : Nat) ^ n : Nat) : Int)).length = n + 1 := by
      rw [PT.pow_sg]
      simp
    have h10 : (((10 : Nat) ^ n : Nat) : Int).natAbs < 10 ^ 64000 := by
      rw [Int.natAbs_natCast]
      exact Nat.pow_lt_pow_right (by decide) (by omega)
    have one : (1 : Int).natAbs < 10 ^ 64000 := Nat.lt_of_lt_of_le (by decide : 1 < 10 ^ 1) (Nat.pow_le_pow_right (by decide) (by decide))
    have ten : 2 ≤ (10 : Nat) ^ n := Nat.le_trans (by decide : 2 ≤ 10 ^ 1) (Nat.pow_le_pow_right (by decide) (by omega))
    obtain ⟨N, eN⟩ : ∃ N : Int, N = (((10 : Nat) ^ n : Nat) : Int) := ⟨_, rfl⟩
    rw [← eN] at len h10
    rw [← eN]
    have N2 : N ≠ 1 := by omega
    have rd : PySem.intText? (PT.tx (PT.sg N)) = some N := PT.reads (by omega)
    have ls : (PT.tx (PT.sg N)).length ≤ sizeLine := sl_small (by rw [PT.tx_len]; omega)
    have seen : (PySem.numSeenOf (PT.tx (PT.sg N))).length = (PT.tx (PT.sg N)).length := by
      have e : PT.sg N = PT.dg N.natAbs := by
        unfold PT.sg
        rw [if_neg (by omega)]
      rw [(PySem.numText_signs (x := PT.tx (PT.sg N)) fun c hc => .inr (PT.dg_all _ c (by rw [PT.tx_list, e] at hc; exact hc))).2, PT.tx_list, PT.tx_len]
    have tN : Str.ofString (toString N) = PT.tx (PT.sg N) := PT.num_tx N
    have wl : (PT.tx (PT.sg N)).length ≤ 5000 := by
      rw [PT.tx_len]
      omega
    clear eN hn ten
    generalize PT.tx (PT.sg N) = W at *
    refine ⟨_, rfl, _, N, rfl, rd, ls, seen, slr rfl, fun t1 ht1 => ⟨t1, _, _, rfl, SqT.of upd_same, h10, one, fun H3 e3 => ?_⟩⟩
    rw [if_pos rfl, tN]
    refine ⟨_, rfl, _, rfl, _, N, rfl, rd, ls, seen, slr rfl, fun t2 ht2 => ⟨t2, _, _, rfl, SqT.of upd_same, one, h10, fun H4 e4 => ?_⟩⟩
    rw [if_neg N2, tN]
    refine ⟨slr rfl, fun l1 hl1 => ?_⟩
    have f1 := Same.new hl1 (.lst [V.str W, V.str (Str.ofString (toString (-1 : Int)) ++ Str.ofString "/" ++ W)])
    have g1 : upd H4 l1 (.lst [V.str W, V.str (Str.ofString (toString (-1 : Int)) ++ Str.ofString "/" ++ W)]) l1 = _ := upd_same
    generalize upd H4 l1 (.lst [V.str W, V.str (Str.ofString (toString (-1 : Int)) ++ Str.ofString "/" ++ W)]) = H5 at f1 g1
    have w3 : (Str.ofString "-1/").length + W.length ≤ 100000 := by
      have : (Str.ofString "-1/").length = 3 := by decide
      omega
    refine ⟨_, rfl, _, rfl, _, rfl, _, _, rfl, rfl, sl_small w3, slr rfl, fun l2 hl2 => ?_⟩
    have f2 := Same.new hl2 (.lst [V.str W, V.str (Str.ofString "-1/" ++ W)])
    have g2 : upd H5 l2 (.lst [V.str W, V.str (Str.ofString "-1/" ++ W)]) l2 = _ := upd_same
    generalize upd H5 l2 (.lst [V.str W, V.str (Str.ofString "-1/" ++ W)]) = H6 at f2 g2
    have et : Str.ofString (toString (-1 : Int)) ++ Str.ofString "/" = Str.ofString "-1/" := by decide
    refine ⟨_, _, rfl, eqL (f2 _ _ g1) g2 (.cons (eqS rfl) (.cons (eqS (by rw [et])) .nil)) (by show 2 ≤ 100000; decide), fun H7 e7 => ⟨_, rfl, iteF ?_⟩⟩
    have x1 : ([.int ((10 : Int) ^ (30 : Int).toNat - 1), .int 1] : List V) = FR (Rat.divInt ((10 : Int) ^ (30 : Int).toNat - 1) 1) :=
      fr_of (by rw [RM.num_pos (by decide)]; decide +kernel) (by rw [RM.den_pos (by decide)]; decide +kernel)
    have x2 : ([.int 1, .int ((10 : Int) ^ (30 : Int).toNat - 1)] : List V) = FR (Rat.divInt 1 ((10 : Int) ^ (30 : Int).toNat - 1)) :=
      fr_of (by rw [RM.num_pos (by decide)]; decide +kernel) (by rw [RM.den_pos (by decide)]; decide +kernel)
    have b1 : RM.Bd 100 (Rat.divInt ((10 : Int) ^ (30 : Int).toNat - 1) 1) := RM.Bd.div (by decide) (by decide) (by decide)
    have b2 : RM.Bd 100 (Rat.divInt 1 ((10 : Int) ^ (30 : Int).toNat - 1)) := RM.Bd.div (by decide) (by decide) (by decide)
    refine ⟨_, _, rfl, rfl, ⟨by decide, by decide, by decide⟩, _, _, rfl, rfl, slr rfl, fun t3 ht3 => ?_⟩
    have f3 := Same.new ht3 (.tup [V.int ((10 : Int) ^ (30 : Int).toNat - 1), V.int 1])
    have g3 : upd H7 t3 (.tup [V.int ((10 : Int) ^ (30 : Int).toNat - 1), V.int 1]) t3 = _ := upd_same
    generalize upd H7 t3 (.tup [V.int ((10 : Int) ^ (30 : Int).toNat - 1), V.int 1]) = H8 at f3 g3
    refine ⟨_, _, rfl, rfl, ⟨by decide, by decide, by decide⟩, _, _, rfl, rfl, slr rfl, fun t4 ht4 => ?_⟩
    have f4 := Same.new ht4 (.tup [V.int 1, V.int ((10 : Int) ^ (30 : Int).toNat - 1)])
    have g4 : upd H8 t4 (.tup [V.int 1, V.int ((10 : Int) ^ (30 : Int).toNat - 1)]) t4 = _ := upd_same
    generalize upd H8 t4 (.tup [V.int 1, V.int ((10 : Int) ^ (30 : Int).toNat - 1)]) = H9 at f4 g4
    rw [x1] at g3
    rw [x2] at g4
    refine ⟨_, 100, .cons ⟨t3, rfl, f4 _ _ g3⟩ (.cons ⟨t4, rfl, g4⟩ .nil), AllBd.cons b1 (AllBd.cons b2 AllBd.nil), sz rfl, fun rp H10 e10 _ h10 => ?_⟩
    refine ⟨_, _, rfl, rfl, ⟨by decide, by decide, by decide⟩, _, _, rfl, rfl, slr rfl, fun t5 ht5 => ?_⟩
    have f5 := Same.new ht5 (.tup [V.int ((10 : Int) ^ (30 : Int).toNat - 1), V.int 1])
    have g5 : upd H10 t5 (.tup [V.int ((10 : Int) ^ (30 : Int).toNat - 1), V.int 1]) t5 = _ := upd_same
    generalize upd H10 t5 (.tup [V.int ((10 : Int) ^ (30 : Int).toNat - 1), V.int 1]) = H11 at f5 g5
    refine ⟨_, _, rfl, rfl, ⟨by decide, by decide, by decide⟩, _, _, rfl, rfl, slr rfl, fun t6 ht6 => ?_⟩
    have f6 := Same.new ht6 (.tup [V.int 1, V.int ((10 : Int) ^ (30 : Int).toNat - 1)])
    have g6 : upd H11 t6 (.tup [V.int 1, V.int ((10 : Int) ^ (30 : Int).toNat - 1)]) t6 = _ := upd_same
    generalize upd H11 t6 (.tup [V.int 1, V.int ((10 : Int) ^ (30 : Int).toNat - 1)]) = H12 at f6 g6
    rw [x1] at g5
    rw [x2] at g6
    refine ⟨_, _, _, _, 100, 100, rfl, ⟨t5, rfl, f6 _ _ g5⟩, ⟨t6, rfl, g6⟩, b1, b2, by decide, fun rq H13 e13 _ h13 => ?_⟩
    rw [sum2] at h10
    exact ⟨_, _, rfl, eqR ⟨rp, rfl, ((f5.trans f6).trans e13) _ _ h10⟩ ⟨rq, rfl, h13⟩, fun H14 e14 => q _⟩
end

-- CUT11
theorem all_mk {l : PySem.W.OpenLaw} {w : World} {K : PySem.W.Frag} {h : Heap} {mg : Str → Option Value} {fa f1 f2 f3 f4 f5 f6 f7 f8 f9 f10 f11 f12 f13 f14 f15 f16 f17 f18 f19 f20 f21 f22 f23 f24 f25 f26 f27 : Addr} (X : K.In h) (G : h.Ns mainGlobals mg) (hfa : mg "law" = some (.ref fa))
    {od1 an1 od2 an2 od3 an3 od4 an4 od5 an5 od6 an6 od7 an7 od8 an8 od9 an9 od10 an10 od11 an11 od12 an12 od13 an13 od14 an14 od15 an15 od16 an16 od17 an17 od18 an18 od19 an19 od20 an20 od21 an21 od22 an22 od23 an23 od24 an24 od25 an25 od26 an26 od27 an27 : Option Addr} {sl1 sl2 sl3 sl4 sl5 sl6 sl7 sl8 sl9 sl10 sl11 sl12 sl13 sl14 sl15 sl16 sl17 sl18 sl19 sl20 sl21 sl22 sl23 sl24 sl25 sl26 sl27 : Array (Option Value)} {oc1 kV1 dc1 pm1 cd1 ct1 oc2 kV2 dc2 pm2 cd2 ct2 oc3 kV3 dc3 pm3 cd3 ct3 oc4 kV4 dc4 pm4 cd4 ct4 oc5 kV5 dc5 pm5 cd5 ct5 oc6 kV6 dc6 pm6 cd6 ct6 oc7 kV7 dc7 pm7 cd7 ct7 oc8 kV8 dc8 pm8 cd8 ct8 oc9 kV9 dc9 pm9 cd9 ct9 oc10 kV10 dc10 pm10 cd10 ct10 oc11 kV11 dc11 pm11 cd11 ct11 oc12 kV12 dc12 pm12 cd12 ct12 oc13 kV13 dc13 pm13 cd13 ct13 oc14 kV14 dc14 pm14 cd14 ct14 oc15 kV15 dc15 pm15 cd15 ct15 oc16 kV16 dc16 pm16 cd16 ct16 oc17 kV17 dc17 pm17 cd17 ct17 oc18 kV18 dc18 pm18 cd18 ct18 oc19 kV19 dc19 pm19 cd19 ct19 oc20 kV20 dc20 pm20 cd20 ct20 oc21 kV21 dc21 pm21 cd21 ct21 oc22 kV22 dc22 pm22 cd22 ct22 oc23 kV23 dc23 pm23 cd23 ct23 oc24 kV24 dc24 pm24 cd24 ct24 oc25 kV25 dc25 pm25 cd25 ct25 oc26 kV26 dc26 pm26 cd26 ct26 oc27 kV27 dc27 pm27 cd27 ct27 : Value}
    (a1 : PySem.W.nsIn K mainGlobals "common_divisor" = some (some (.ref f1))) (l1 : K.lookup f1 = some ⟨oc1, od1, .func (PySem.W.fnOf "common_divisor" "common_divisor" (defArgs s_common_divisor) (defBody s_common_divisor) (defScope s_common_divisor) .none kV1 dc1 pm1 an1 cd1 ct1), sl1⟩) (c1 : PySem.W.codeIn K cd1 "common_divisor" = true) (k1 : PySem.W.keepIn K (.ref f1) = true)
    (a2 : PySem.W.nsIn K mainGlobals "reduced" = some (some (.ref f2))) (l2 : K.lookup f2 = some ⟨oc2, od2, .func (PySem.W.fnOf "reduced" "reduced" (defArgs s_reduced) (defBody s_reduced) (defScope s_reduced) .none kV2 dc2 pm2 an2 cd2 ct2), sl2⟩) (c2 : PySem.W.codeIn K cd2 "reduced" = true) (k2 : PySem.W.keepIn K (.ref f2) = true)
    (a3 : PySem.W.nsIn K mainGlobals "is_number" = some (some (.ref f3))) (l3 : K.lookup f3 = some ⟨oc3, od3, .func (PySem.W.fnOf "is_number" "is_number" (defArgs s_is_number) (defBody s_is_number) (defScope s_is_number) .none kV3 dc3 pm3 an3 cd3 ct3), sl3⟩) (c3 : PySem.W.codeIn K cd3 "is_number" = true) (k3 : PySem.W.keepIn K (.ref f3) = true)
    (a4 : PySem.W.nsIn K mainGlobals "is_fraction" = some (some (.ref f4))) (l4 : K.lookup f4 = some ⟨oc4, od4, .func (PySem.W.fnOf "is_fraction" "is_fraction" (defArgs s_is_fraction) (defBody s_is_fraction) (defScope s_is_fraction) .none kV4 dc4 pm4 an4 cd4 ct4), sl4⟩) (c4 : PySem.W.codeIn K cd4 "is_fraction" = true) (k4 : PySem.W.keepIn K (.ref f4) = true)
    (a5 : PySem.W.nsIn K mainGlobals "plus" = some (some (.ref f5))) (l5 : K.lookup f5 = some ⟨oc5, od5, .func (PySem.W.fnOf "plus" "plus" (defArgs s_plus) (defBody s_plus) (defScope s_plus) .none kV5 dc5 pm5 an5 cd5 ct5), sl5⟩) (c5 : PySem.W.codeIn K cd5 "plus" = true) (k5 : PySem.W.keepIn K (.ref f5) = true)
    (a6 : PySem.W.nsIn K mainGlobals "times" = some (some (.ref f6))) (l6 : K.lookup f6 = some ⟨oc6, od6, .func (PySem.W.fnOf "times" "times" (defArgs s_times) (defBody s_times) (defScope s_times) .none kV6 dc6 pm6 an6 cd6 ct6), sl6⟩) (c6 : PySem.W.codeIn K cd6 "times" = true) (k6 : PySem.W.keepIn K (.ref f6) = true)
    (a7 : PySem.W.nsIn K mainGlobals "total" = some (some (.ref f7))) (l7 : K.lookup f7 = some ⟨oc7, od7, .func (PySem.W.fnOf "total" "total" (defArgs s_total) (defBody s_total) (defScope s_total) .none kV7 dc7 pm7 an7 cd7 ct7), sl7⟩) (c7 : PySem.W.codeIn K cd7 "total" = true) (k7 : PySem.W.keepIn K (.ref f7) = true)
    (a8 : PySem.W.nsIn K mainGlobals "negative" = some (some (.ref f8))) (l8 : K.lookup f8 = some ⟨oc8, od8, .func (PySem.W.fnOf "negative" "negative" (defArgs s_negative) (defBody s_negative) (defScope s_negative) .none kV8 dc8 pm8 an8 cd8 ct8), sl8⟩) (c8 : PySem.W.codeIn K cd8 "negative" = true) (k8 : PySem.W.keepIn K (.ref f8) = true)
    (a9 : PySem.W.nsIn K mainGlobals "order" = some (some (.ref f9))) (l9 : K.lookup f9 = some ⟨oc9, od9, .func (PySem.W.fnOf "order" "order" (defArgs s_order) (defBody s_order) (defScope s_order) .none kV9 dc9 pm9 an9 cd9 ct9), sl9⟩) (c9 : PySem.W.codeIn K cd9 "order" = true) (k9 : PySem.W.keepIn K (.ref f9) = true)
    (a10 : PySem.W.nsIn K mainGlobals "number_text" = some (some (.ref f10))) (l10 : K.lookup f10 = some ⟨oc10, od10, .func (PySem.W.fnOf "number_text" "number_text" (defArgs s_number_text) (defBody s_number_text) (defScope s_number_text) .none kV10 dc10 pm10 an10 cd10 ct10), sl10⟩) (c10 : PySem.W.codeIn K cd10 "number_text" = true) (k10 : PySem.W.keepIn K (.ref f10) = true)
    (a11 : PySem.W.nsIn K mainGlobals "ratio_text" = some (some (.ref f11))) (l11 : K.lookup f11 = some ⟨oc11, od11, .func (PySem.W.fnOf "ratio_text" "ratio_text" (defArgs s_ratio_text) (defBody s_ratio_text) (defScope s_ratio_text) .none kV11 dc11 pm11 an11 cd11 ct11), sl11⟩) (c11 : PySem.W.codeIn K cd11 "ratio_text" = true) (k11 : PySem.W.keepIn K (.ref f11) = true)
    (a12 : PySem.W.nsIn K mainGlobals "is_digits" = some (some (.ref f12))) (l12 : K.lookup f12 = some ⟨oc12, od12, .func (PySem.W.fnOf "is_digits" "is_digits" (defArgs s_is_digits) (defBody s_is_digits) (defScope s_is_digits) .none kV12 dc12 pm12 an12 cd12 ct12), sl12⟩) (c12 : PySem.W.codeIn K cd12 "is_digits" = true) (k12 : PySem.W.keepIn K (.ref f12) = true)
    (a13 : PySem.W.nsIn K mainGlobals "parse_ratio" = some (some (.ref f13))) (l13 : K.lookup f13 = some ⟨oc13, od13, .func (PySem.W.fnOf "parse_ratio" "parse_ratio" (defArgs s_parse_ratio) (defBody s_parse_ratio) (defScope s_parse_ratio) .none kV13 dc13 pm13 an13 cd13 ct13), sl13⟩) (c13 : PySem.W.codeIn K cd13 "parse_ratio" = true) (k13 : PySem.W.keepIn K (.ref f13) = true)
    (a14 : PySem.W.nsIn K mainGlobals "_law_bag" = some (some (.ref f14))) (l14 : K.lookup f14 = some ⟨oc14, od14, .func (PySem.W.fnOf "_law_bag" "_law_bag" (defArgs s_bag) (defBody s_bag) (defScope s_bag) .none kV14 dc14 pm14 an14 cd14 ct14), sl14⟩) (c14 : PySem.W.codeIn K cd14 "_law_bag" = true) (k14 : PySem.W.keepIn K (.ref f14) = true)
    (a15 : PySem.W.nsIn K mainGlobals "_law_pull" = some (some (.ref f15))) (l15 : K.lookup f15 = some ⟨oc15, od15, .func (PySem.W.fnOf "_law_pull" "_law_pull" (defArgs s_pull) (defBody s_pull) (defScope s_pull) .none kV15 dc15 pm15 an15 cd15 ct15), sl15⟩) (c15 : PySem.W.codeIn K cd15 "_law_pull" = true) (k15 : PySem.W.keepIn K (.ref f15) = true)
    (a16 : PySem.W.nsIn K mainGlobals "_law_of" = some (some (.ref f16))) (l16 : K.lookup f16 = some ⟨oc16, od16, .func (PySem.W.fnOf "_law_of" "_law_of" (defArgs s_of) (defBody s_of) (defScope s_of) .none kV16 dc16 pm16 an16 cd16 ct16), sl16⟩) (c16 : PySem.W.codeIn K cd16 "_law_of" = true) (k16 : PySem.W.keepIn K (.ref f16) = true)
    (a17 : PySem.W.nsIn K mainGlobals "_law_same" = some (some (.ref f17))) (l17 : K.lookup f17 = some ⟨oc17, od17, .func (PySem.W.fnOf "_law_same" "_law_same" (defArgs s_same) (defBody s_same) (defScope s_same) .none kV17 dc17 pm17 an17 cd17 ct17), sl17⟩) (c17 : PySem.W.codeIn K cd17 "_law_same" = true) (k17 : PySem.W.keepIn K (.ref f17) = true)
    (a18 : PySem.W.nsIn K mainGlobals "_law_gcd" = some (some (.ref f18))) (l18 : K.lookup f18 = some ⟨oc18, od18, .func (PySem.W.fnOf "_law_gcd" "_law_gcd" (defArgs s_gcd) (defBody s_gcd) (defScope s_gcd) .none kV18 dc18 pm18 an18 cd18 ct18), sl18⟩) (c18 : PySem.W.codeIn K cd18 "_law_gcd" = true) (k18 : PySem.W.keepIn K (.ref f18) = true)
    (a19 : PySem.W.nsIn K mainGlobals "_law_low" = some (some (.ref f19))) (l19 : K.lookup f19 = some ⟨oc19, od19, .func (PySem.W.fnOf "_law_low" "_law_low" (defArgs s_low) (defBody s_low) (defScope s_low) .none kV19 dc19 pm19 an19 cd19 ct19), sl19⟩) (c19 : PySem.W.codeIn K cd19 "_law_low" = true) (k19 : PySem.W.keepIn K (.ref f19) = true)
    (a20 : PySem.W.nsIn K mainGlobals "_law_add" = some (some (.ref f20))) (l20 : K.lookup f20 = some ⟨oc20, od20, .func (PySem.W.fnOf "_law_add" "_law_add" (defArgs s_add) (defBody s_add) (defScope s_add) .none kV20 dc20 pm20 an20 cd20 ct20), sl20⟩) (c20 : PySem.W.codeIn K cd20 "_law_add" = true) (k20 : PySem.W.keepIn K (.ref f20) = true)
    (a21 : PySem.W.nsIn K mainGlobals "_law_sum" = some (some (.ref f21))) (l21 : K.lookup f21 = some ⟨oc21, od21, .func (PySem.W.fnOf "_law_sum" "_law_sum" (defArgs s_sum) (defBody s_sum) (defScope s_sum) .none kV21 dc21 pm21 an21 cd21 ct21), sl21⟩) (c21 : PySem.W.codeIn K cd21 "_law_sum" = true) (k21 : PySem.W.keepIn K (.ref f21) = true)
    (a22 : PySem.W.nsIn K mainGlobals "_law_mul" = some (some (.ref f22))) (l22 : K.lookup f22 = some ⟨oc22, od22, .func (PySem.W.fnOf "_law_mul" "_law_mul" (defArgs s_mul) (defBody s_mul) (defScope s_mul) .none kV22 dc22 pm22 an22 cd22 ct22), sl22⟩) (c22 : PySem.W.codeIn K cd22 "_law_mul" = true) (k22 : PySem.W.keepIn K (.ref f22) = true)
    (a23 : PySem.W.nsIn K mainGlobals "_law_neg" = some (some (.ref f23))) (l23 : K.lookup f23 = some ⟨oc23, od23, .func (PySem.W.fnOf "_law_neg" "_law_neg" (defArgs s_neg) (defBody s_neg) (defScope s_neg) .none kV23 dc23 pm23 an23 cd23 ct23), sl23⟩) (c23 : PySem.W.codeIn K cd23 "_law_neg" = true) (k23 : PySem.W.keepIn K (.ref f23) = true)
    (a24 : PySem.W.nsIn K mainGlobals "_law_less" = some (some (.ref f24))) (l24 : K.lookup f24 = some ⟨oc24, od24, .func (PySem.W.fnOf "_law_less" "_law_less" (defArgs s_less) (defBody s_less) (defScope s_less) .none kV24 dc24 pm24 an24 cd24 ct24), sl24⟩) (c24 : PySem.W.codeIn K cd24 "_law_less" = true) (k24 : PySem.W.keepIn K (.ref f24) = true)
    (a25 : PySem.W.nsIn K mainGlobals "_law_ratio_text" = some (some (.ref f25))) (l25 : K.lookup f25 = some ⟨oc25, od25, .func (PySem.W.fnOf "_law_ratio_text" "_law_ratio_text" (defArgs s_law_ratio_text) (defBody s_law_ratio_text) (defScope s_law_ratio_text) .none kV25 dc25 pm25 an25 cd25 ct25), sl25⟩) (c25 : PySem.W.codeIn K cd25 "_law_ratio_text" = true) (k25 : PySem.W.keepIn K (.ref f25) = true)
    (a26 : PySem.W.nsIn K mainGlobals "_law_long_number" = some (some (.ref f26))) (l26 : K.lookup f26 = some ⟨oc26, od26, .func (PySem.W.fnOf "_law_long_number" "_law_long_number" (defArgs s_long_number) (defBody s_long_number) (defScope s_long_number) .none kV26 dc26 pm26 an26 cd26 ct26), sl26⟩) (c26 : PySem.W.codeIn K cd26 "_law_long_number" = true) (k26 : PySem.W.keepIn K (.ref f26) = true)
    (a27 : PySem.W.nsIn K mainGlobals "law" = some (some (.ref f27))) (l27 : K.lookup f27 = some ⟨oc27, od27, .func (PySem.W.fnOf "law" "law" (defArgs s_law) (defBody s_law) (defScope s_law) .none kV27 dc27 pm27 an27 cd27 ct27), sl27⟩) (c27 : PySem.W.codeIn K cd27 "law" = true) (k27 : PySem.W.keepIn K (.ref f27) = true)
    (z_abs : PySem.W.nsIn K mainGlobals "abs" = some none) (z_all : PySem.W.nsIn K mainGlobals "all" = some none) (z_bool : PySem.W.nsIn K mainGlobals "bool" = some none) (z_divmod : PySem.W.nsIn K mainGlobals "divmod" = some none) (z_int : PySem.W.nsIn K mainGlobals "int" = some none) (z_isinstance : PySem.W.nsIn K mainGlobals "isinstance" = some none) (z_len : PySem.W.nsIn K mainGlobals "len" = some none) (z_list : PySem.W.nsIn K mainGlobals "list" = some none) (z_max : PySem.W.nsIn K mainGlobals "max" = some none) (z_min : PySem.W.nsIn K mainGlobals "min" = some none) (z_range : PySem.W.nsIn K mainGlobals "range" = some none) (z_reversed : PySem.W.nsIn K mainGlobals "reversed" = some none) (z_str : PySem.W.nsIn K mainGlobals "str" = some none) (z_tuple : PySem.W.nsIn K mainGlobals "tuple" = some none)
    {tk0 : Tok} (n_0 : PySem.W.nsIn K mainGlobals "MOST_DIGITS" = some (some (.int 30 tk0))) :
    ∃ fd : FuncData, (∀ (s : Shared) (v : Value), BindsTo s fd ⟨[v], []⟩ [("_law_script", v)]) ∧ ∀ base : Heap, K.In base → base.Ns mainGlobals mg → base.NoDigits → FnOk l.prog w K mg base CX0 12 fa fd ["_law_script"] (spLaw K) := by
  have e := hfa.symm.trans (PySem.W.mg_of X G a27)
  cases e
  have F1 := fun_mk (st := s_common_divisor) l1 c1 k1
  have b1 := F1.binds (ps := ["one", "other"]) fun _ _ _ _ _ _ us hl => match us, hl with | [_, _], _ => rfl
  have F2 := fun_mk (st := s_reduced) l2 c2 k2
  have b2 := F2.binds (ps := ["numerator", "denominator"]) fun _ _ _ _ _ _ us hl => match us, hl with | [_, _], _ => rfl
  have F3 := fun_mk (st := s_is_number) l3 c3 k3
  have b3 := F3.binds (ps := ["value"]) fun _ _ _ _ _ _ us hl => match us, hl with | [_], _ => rfl
  have F4 := fun_mk (st := s_is_fraction) l4 c4 k4
  have b4 := F4.binds (ps := ["value"]) fun _ _ _ _ _ _ us hl => match us, hl with | [_], _ => rfl
  have F5 := fun_mk (st := s_plus) l5 c5 k5
  have b5 : ∀ rest : List Value, bindArgs (PySem.W.fnOf "plus" "plus" (defArgs s_plus) (defBody s_plus) (defScope s_plus) .none kV5 dc5 pm5 an5 cd5 ct5) ⟨rest, []⟩ = (newTuple rest >>= fun t => pure [(("parts" : Str), t)]) := fun rest => match rest with | [] => rfl | _ :: _ => rfl
  have F6 := fun_mk (st := s_times) l6 c6 k6
  have b6 : ∀ rest : List Value, bindArgs (PySem.W.fnOf "times" "times" (defArgs s_times) (defBody s_times) (defScope s_times) .none kV6 dc6 pm6 an6 cd6 ct6) ⟨rest, []⟩ = (newTuple rest >>= fun t => pure [(("parts" : Str), t)]) := fun rest => match rest with | [] => rfl | _ :: _ => rfl
  have F7 := fun_mk (st := s_total) l7 c7 k7
  have b7 := F7.binds (ps := ["parts"]) fun _ _ _ _ _ _ us hl => match us, hl with | [_], _ => rfl
  have F8 := fun_mk (st := s_negative) l8 c8 k8
  have b8 := F8.binds (ps := ["part"]) fun _ _ _ _ _ _ us hl => match us, hl with | [_], _ => rfl
  have F9 := fun_mk (st := s_order) l9 c9 k9
  have b9 := F9.binds (ps := ["one", "other"]) fun _ _ _ _ _ _ us hl => match us, hl with | [_, _], _ => rfl
  have F10 := fun_mk (st := s_number_text) l10 c10 k10
  have b10 := F10.binds (ps := ["number"]) fun _ _ _ _ _ _ us hl => match us, hl with | [_], _ => rfl
  have F11 := fun_mk (st := s_ratio_text) l11 c11 k11
  have b11 := F11.binds (ps := ["part"]) fun _ _ _ _ _ _ us hl => match us, hl with | [_], _ => rfl
  have F12 := fun_mk (st := s_is_digits) l12 c12 k12
  have b12 := F12.binds (ps := ["text"]) fun _ _ _ _ _ _ us hl => match us, hl with | [_], _ => rfl
  have F13 := fun_mk (st := s_parse_ratio) l13 c13 k13
  have b13 := F13.binds (ps := ["text"]) fun _ _ _ _ _ _ us hl => match us, hl with | [_], _ => rfl
  have F14 := fun_mk (st := s_bag) l14 c14 k14
  have b14 := F14.binds (ps := ["_law_script"]) fun _ _ _ _ _ _ us hl => match us, hl with | [_], _ => rfl
  have F15 := fun_mk (st := s_pull) l15 c15 k15
  have b15 := F15.binds (ps := ["_law_bag_here", "_law_many"]) fun _ _ _ _ _ _ us hl => match us, hl with | [_, _], _ => rfl
  have F16 := fun_mk (st := s_of) l16 c16 k16
  have b16 := F16.binds (ps := ["_law_bag_here", "_law_some"]) fun _ _ _ _ _ _ us hl => match us, hl with | [_, _], _ => rfl
  have F17 := fun_mk (st := s_same) l17 c17 k17
  have b17 := F17.binds (ps := ["_law_found", "_law_due"]) fun _ _ _ _ _ _ us hl => match us, hl with | [_, _], _ => rfl
  have F18 := fun_mk (st := s_gcd) l18 c18 k18
  have b18 := F18.binds (ps := ["_law_a", "_law_b"]) fun _ _ _ _ _ _ us hl => match us, hl with | [_, _], _ => rfl
  have F19 := fun_mk (st := s_low) l19 c19 k19
  have b19 := F19.binds (ps := ["_law_a", "_law_b"]) fun _ _ _ _ _ _ us hl => match us, hl with | [_, _], _ => rfl
  have F20 := fun_mk (st := s_add) l20 c20 k20
  have b20 := F20.binds (ps := ["_law_p", "_law_q"]) fun _ _ _ _ _ _ us hl => match us, hl with | [_, _], _ => rfl
  have F21 := fun_mk (st := s_sum) l21 c21 k21
  have b21 := F21.binds (ps := ["_law_parts"]) fun _ _ _ _ _ _ us hl => match us, hl with | [_], _ => rfl
  have F22 := fun_mk (st := s_mul) l22 c22 k22
  have b22 := F22.binds (ps := ["_law_p", "_law_q"]) fun _ _ _ _ _ _ us hl => match us, hl with | [_, _], _ => rfl
  have F23 := fun_mk (st := s_neg) l23 c23 k23
  have b23 := F23.binds (ps := ["_law_p"]) fun _ _ _ _ _ _ us hl => match us, hl with | [_], _ => rfl
  have F24 := fun_mk (st := s_less) l24 c24 k24
  have b24 := F24.binds (ps := ["_law_p", "_law_q"]) fun _ _ _ _ _ _ us hl => match us, hl with | [_, _], _ => rfl
  have F25 := fun_mk (st := s_law_ratio_text) l25 c25 k25
  have b25 := F25.binds (ps := ["_law_part"]) fun _ _ _ _ _ _ us hl => match us, hl with | [_], _ => rfl
  have F26 := fun_mk (st := s_long_number) l26 c26 k26
  have b26 := F26.binds (ps := ["_law_bag_here"]) fun _ _ _ _ _ _ us hl => match us, hl with | [_], _ => rfl
  have F27 := fun_mk (st := s_law) l27 c27 k27
  have b27 := F27.binds (ps := ["_law_script"]) fun _ _ _ _ _ _ us hl => match us, hl with | [_], _ => rfl
  have T : Txt K mg ⟨f1, PySem.W.fnOf "common_divisor" "common_divisor" (defArgs s_common_divisor) (defBody s_common_divisor) (defScope s_common_divisor) .none kV1 dc1 pm1 an1 cd1 ct1, f2, PySem.W.fnOf "reduced" "reduced" (defArgs s_reduced) (defBody s_reduced) (defScope s_reduced) .none kV2 dc2 pm2 an2 cd2 ct2, f3, PySem.W.fnOf "is_number" "is_number" (defArgs s_is_number) (defBody s_is_number) (defScope s_is_number) .none kV3 dc3 pm3 an3 cd3 ct3, f4, PySem.W.fnOf "is_fraction" "is_fraction" (defArgs s_is_fraction) (defBody s_is_fraction) (defScope s_is_fraction) .none kV4 dc4 pm4 an4 cd4 ct4, f5, PySem.W.fnOf "plus" "plus" (defArgs s_plus) (defBody s_plus) (defScope s_plus) .none kV5 dc5 pm5 an5 cd5 ct5, f6, PySem.W.fnOf "times" "times" (defArgs s_times) (defBody s_times) (defScope s_times) .none kV6 dc6 pm6 an6 cd6 ct6, f7, PySem.W.fnOf "total" "total" (defArgs s_total) (defBody s_total) (defScope s_total) .none kV7 dc7 pm7 an7 cd7 ct7, f8, PySem.W.fnOf "negative" "negative" (defArgs s_negative) (defBody s_negative) (defScope s_negative) .none kV8 dc8 pm8 an8 cd8 ct8, f9, PySem.W.fnOf "order" "order" (defArgs s_order) (defBody s_order) (defScope s_order) .none kV9 dc9 pm9 an9 cd9 ct9, f10, PySem.W.fnOf "number_text" "number_text" (defArgs s_number_text) (defBody s_number_text) (defScope s_number_text) .none kV10 dc10 pm10 an10 cd10 ct10, f11, PySem.W.fnOf "ratio_text" "ratio_text" (defArgs s_ratio_text) (defBody s_ratio_text) (defScope s_ratio_text) .none kV11 dc11 pm11 an11 cd11 ct11, f12, PySem.W.fnOf "is_digits" "is_digits" (defArgs s_is_digits) (defBody s_is_digits) (defScope s_is_digits) .none kV12 dc12 pm12 an12 cd12 ct12, f13, PySem.W.fnOf "parse_ratio" "parse_ratio" (defArgs s_parse_ratio) (defBody s_parse_ratio) (defScope s_parse_ratio) .none kV13 dc13 pm13 an13 cd13 ct13, f14, PySem.W.fnOf "_law_bag" "_law_bag" (defArgs s_bag) (defBody s_bag) (defScope s_bag) .none kV14 dc14 pm14 an14 cd14 ct14, f15, PySem.W.fnOf "_law_pull" "_law_pull" (defArgs s_pull) (defBody s_pull) (defScope s_pull) .none kV15 dc15 pm15 an15 cd15 ct15, f16, PySem.W.fnOf "_law_of" "_law_of" (defArgs s_of) (defBody s_of) (defScope s_of) .none kV16 dc16 pm16 an16 cd16 ct16, f17, PySem.W.fnOf "_law_same" "_law_same" (defArgs s_same) (defBody s_same) (defScope s_same) .none kV17 dc17 pm17 an17 cd17 ct17, f18, PySem.W.fnOf "_law_gcd" "_law_gcd" (defArgs s_gcd) (defBody s_gcd) (defScope s_gcd) .none kV18 dc18 pm18 an18 cd18 ct18, f19, PySem.W.fnOf "_law_low" "_law_low" (defArgs s_low) (defBody s_low) (defScope s_low) .none kV19 dc19 pm19 an19 cd19 ct19, f20, PySem.W.fnOf "_law_add" "_law_add" (defArgs s_add) (defBody s_add) (defScope s_add) .none kV20 dc20 pm20 an20 cd20 ct20, f21, PySem.W.fnOf "_law_sum" "_law_sum" (defArgs s_sum) (defBody s_sum) (defScope s_sum) .none kV21 dc21 pm21 an21 cd21 ct21, f22, PySem.W.fnOf "_law_mul" "_law_mul" (defArgs s_mul) (defBody s_mul) (defScope s_mul) .none kV22 dc22 pm22 an22 cd22 ct22, f23, PySem.W.fnOf "_law_neg" "_law_neg" (defArgs s_neg) (defBody s_neg) (defScope s_neg) .none kV23 dc23 pm23 an23 cd23 ct23, f24, PySem.W.fnOf "_law_less" "_law_less" (defArgs s_less) (defBody s_less) (defScope s_less) .none kV24 dc24 pm24 an24 cd24 ct24, f25, PySem.W.fnOf "_law_ratio_text" "_law_ratio_text" (defArgs s_law_ratio_text) (defBody s_law_ratio_text) (defScope s_law_ratio_text) .none kV25 dc25 pm25 an25 cd25 ct25, f26, PySem.W.fnOf "_law_long_number" "_law_long_number" (defArgs s_long_number) (defBody s_long_number) (defScope s_long_number) .none kV26 dc26 pm26 an26 cd26 ct26, fa, PySem.W.fnOf "law" "law" (defArgs s_law) (defBody s_law) (defScope s_law) .none kV27 dc27 pm27 an27 cd27 ct27⟩ := ⟨⟨F1, PySem.W.mg_of X G a1, b1⟩, ⟨F2, PySem.W.mg_of X G a2, b2⟩, ⟨F3, PySem.W.mg_of X G a3, b3⟩, ⟨F4, PySem.W.mg_of X G a4, b4⟩, ⟨F5, PySem.W.mg_of X G a5, b5⟩, ⟨F6, PySem.W.mg_of X G a6, b6⟩, ⟨F7, PySem.W.mg_of X G a7, b7⟩, ⟨F8, PySem.W.mg_of X G a8, b8⟩, ⟨F9, PySem.W.mg_of X G a9, b9⟩, ⟨F10, PySem.W.mg_of X G a10, b10⟩, ⟨F11, PySem.W.mg_of X G a11, b11⟩, ⟨F12, PySem.W.mg_of X G a12, b12⟩, ⟨F13, PySem.W.mg_of X G a13, b13⟩, ⟨F14, PySem.W.mg_of X G a14, b14⟩, ⟨F15, PySem.W.mg_of X G a15, b15⟩, ⟨F16, PySem.W.mg_of X G a16, b16⟩, ⟨F17, PySem.W.mg_of X G a17, b17⟩, ⟨F18, PySem.W.mg_of X G a18, b18⟩, ⟨F19, PySem.W.mg_of X G a19, b19⟩, ⟨F20, PySem.W.mg_of X G a20, b20⟩, ⟨F21, PySem.W.mg_of X G a21, b21⟩, ⟨F22, PySem.W.mg_of X G a22, b22⟩, ⟨F23, PySem.W.mg_of X G a23, b23⟩, ⟨F24, PySem.W.mg_of X G a24, b24⟩, ⟨F25, PySem.W.mg_of X G a25, b25⟩, ⟨F26, PySem.W.mg_of X G a26, b26⟩, ⟨F27, PySem.W.mg_of X G a27, b27⟩, PySem.W.mg_none_of X G z_abs, PySem.W.mg_none_of X G z_all, PySem.W.mg_none_of X G z_bool, PySem.W.mg_none_of X G z_divmod, PySem.W.mg_none_of X G z_int, PySem.W.mg_none_of X G z_isinstance, PySem.W.mg_none_of X G z_len, PySem.W.mg_none_of X G z_list, PySem.W.mg_none_of X G z_max, PySem.W.mg_none_of X G z_min, PySem.W.mg_none_of X G z_range, PySem.W.mg_none_of X G z_reversed, PySem.W.mg_none_of X G z_str, PySem.W.mg_none_of X G z_tuple, ⟨_, PySem.W.mg_of X G n_0⟩⟩
  exact ⟨PySem.W.fnOf "law" "law" (defArgs s_law) (defBody s_law) (defScope s_law) .none kV27 dc27 pm27 an27 cd27 ct27, fun s v => .of_eq rfl, fun base _ _ hd => ok_law T hd⟩
theorem walk {l : PySem.W.OpenLaw} {q : Program} {loose : List Str} {XP : (Str → Option Value) → Heap → Prop} {YP : World → Heap → Prop} {d : DefRec} {K : Params → PySem.W.Frag} (hn : l.most = some 63) (hdf : d.params.defaults = [])
    (hY : ∀ (w : World) (h : Heap), YP w h → (K w.params).In h)
    (F : ∀ (w : World) (mg : Str → Option Value) (fa : Addr) (h : Heap), (K w.params).In h → h.Ns mainGlobals mg → mg d.name = some (.ref fa) →
      ∃ fd : FuncData, (∀ (s : Shared) (u : Value), BindsTo s fd ⟨[u], []⟩ [("_law_script", u)]) ∧ ∀ base : Heap, (K w.params).In base → base.Ns mainGlobals mg → base.NoDigits → FnOk l.prog w (K w.params) mg base CX0 12 fa fd ["_law_script"] (spLaw (K w.params))) :
    PySem.W.WalkO q loose XP YP l.row.toRowW d [] (fun f vs => PySem.call f vs) :=
  walkD (n := 63) (k := 12) (x := "_law_script") (sp := spLaw) hn (by decide) hdf ⟨rfl, by decide, by decide⟩ hY F (fun _ _ a ns hl hS => ⟨a, ns, rfl, hS, hl, fun _ => rfl⟩)
end Toy
open PySem PySem.W PyProof.Rows in
set_option maxRecDepth 100000 in
set_option maxHeartbeats 0 in
theorem PySem.Challenge.cw_graincourse_k87_numbers_of_thirty_digits_holds : PySem.Challenge.rw_graincourse_k87_numbers_of_thirty_digits.Holds := by
  w_on; o_law; k_head; (case hw => w_witness2)
  k_fill
  refine Toy.walk (l := PySem.Challenge.rw_graincourse_k87_numbers_of_thirty_digits) rfl rfl (fun w h Y => PySem.W.kIn_of Y) ?F
  case F =>
    intro w mg fa h KX G hmg
    refine' Toy.all_mk KX G hmg ?a1 ?l1 ?c1 ?k1 ?a2 ?l2 ?c2 ?k2 ?a3 ?l3 ?c3 ?k3 ?a4 ?l4 ?c4 ?k4 ?a5 ?l5 ?c5 ?k5 ?a6 ?l6 ?c6 ?k6 ?a7 ?l7 ?c7 ?k7 ?a8 ?l8 ?c8 ?k8 ?a9 ?l9 ?c9 ?k9 ?a10 ?l10 ?c10 ?k10 ?a11 ?l11 ?c11 ?k11 ?a12 ?l12 ?c12 ?k12 ?a13 ?l13 ?c13 ?k13 ?a14 ?l14 ?c14 ?k14 ?a15 ?l15 ?c15 ?k15 ?a16 ?l16 ?c16 ?k16 ?a17 ?l17 ?c17 ?k17 ?a18 ?l18 ?c18 ?k18 ?a19 ?l19 ?c19 ?k19 ?a20 ?l20 ?c20 ?k20 ?a21 ?l21 ?c21 ?k21 ?a22 ?l22 ?c22 ?k22 ?a23 ?l23 ?c23 ?k23 ?a24 ?l24 ?c24 ?k24 ?a25 ?l25 ?c25 ?k25 ?a26 ?l26 ?c26 ?k26 ?a27 ?l27 ?c27 ?k27 ?z_abs ?z_all ?z_bool ?z_divmod ?z_int ?z_isinstance ?z_len ?z_list ?z_max ?z_min ?z_range ?z_reversed ?z_str ?z_tuple ?n_0
    (case a1 => k_is)
    (case l1 => k_is)
    (case c1 => k_is)
    (case k1 => k_is)
    (case a2 => k_is)
    (case l2 => k_is)
    (case c2 => k_is)
    (case k2 => k_is)
    (case a3 => k_is)
    (case l3 => k_is)
    (case c3 => k_is)
    (case k3 => k_is)
    (case a4 => k_is)
    (case l4 => k_is)
    (case c4 => k_is)
    (case k4 => k_is)
    (case a5 => k_is)
    (case l5 => k_is)
    (case c5 => k_is)
    (case k5 => k_is)
    (case a6 => k_is)
    (case l6 => k_is)
    (case c6 => k_is)
    (case k6 => k_is)
    (case a7 => k_is)
    (case l7 => k_is)
    (case c7 => k_is)
    (case k7 => k_is)
    (case a8 => k_is)
    (case l8 => k_is)
    (case c8 => k_is)
    (case k8 => k_is)
    (case a9 => k_is)
    (case l9 => k_is)
    (case c9 => k_is)
    (case k9 => k_is)
    (case a10 => k_is)
    (case l10 => k_is)
    (case c10 => k_is)
    (case k10 => k_is)
    (case a11 => k_is)
    (case l11 => k_is)
    (case c11 => k_is)
    (case k11 => k_is)
    (case a12 => k_is)
    (case l12 => k_is)
    (case c12 => k_is)
    (case k12 => k_is)
    (case a13 => k_is)
    (case l13 => k_is)
    (case c13 => k_is)
    (case k13 => k_is)
    (case a14 => k_is)
    (case l14 => k_is)
    (case c14 => k_is)
    (case k14 => k_is)
    (case a15 => k_is)
    (case l15 => k_is)
    (case c15 => k_is)
    (case k15 => k_is)
    (case a16 => k_is)
    (case l16 => k_is)
    (case c16 => k_is)
    (case k16 => k_is)
    (case a17 => k_is)
    (case l17 => k_is)
    (case c17 => k_is)
    (case k17 => k_is)
    (case a18 => k_is)
    (case l18 => k_is)
    (case c18 => k_is)
    (case k18 => k_is)
    (case a19 => k_is)
    (case l19 => k_is)
    (case c19 => k_is)
    (case k19 => k_is)
    (case a20 => k_is)
    (case l20 => k_is)
    (case c20 => k_is)
    (case k20 => k_is)
    (case a21 => k_is)
    (case l21 => k_is)
    (case c21 => k_is)
    (case k21 => k_is)
    (case a22 => k_is)
    (case l22 => k_is)
    (case c22 => k_is)
    (case k22 => k_is)
    (case a23 => k_is)
    (case l23 => k_is)
    (case c23 => k_is)
    (case k23 => k_is)
    (case a24 => k_is)
    (case l24 => k_is)
    (case c24 => k_is)
    (case k24 => k_is)
    (case a25 => k_is)
    (case l25 => k_is)
    (case c25 => k_is)
    (case k25 => k_is)
    (case a26 => k_is)
    (case l26 => k_is)
    (case c26 => k_is)
    (case k26 => k_is)
    (case a27 => k_is)
    (case l27 => k_is)
    (case c27 => k_is)
    (case k27 => k_is)
    (case z_abs => k_is)
    (case z_all => k_is)
    (case z_bool => k_is)
    (case z_divmod => k_is)
    (case z_int => k_is)
    (case z_isinstance => k_is)
    (case z_len => k_is)
    (case z_list => k_is)
    (case z_max => k_is)
    (case z_min => k_is)
    (case z_range => k_is)
    (case z_reversed => k_is)
    (case z_str => k_is)
    (case z_tuple => k_is)
    (case n_0 => k_is)


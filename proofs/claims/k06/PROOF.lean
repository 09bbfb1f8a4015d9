import PyProof.Rows.All
import Wide.All
import OpenK.AllK
import Wide.FinOn
import HandS.Base
import HandS.Call
import HandS.List
import HandS.Comp
import HandS.Ends
import HandS.Dict
import HandS.Iter
import HandS.Text
import HandS.Words
import HandS.WordsList
import HandS.Wide
import HandS.IsInst
import HandS.More
import HandS.Star
import HandS.Flow
import HandS.NoneIn
import HandS.StrMore
import HandS.ExcValue
import HandS.TupMul
import HandS.TupAny
import PySem.Challenge.RW_graincourse_k06_numbers_of_branches
set_option Elab.async false
set_option maxRecDepth 100000
set_option exponentiation.threshold 100000
set_option linter.all false

namespace Toy
open PySem L2
def top (i : Nat) : Stmt := PySem.Challenge.pw_graincourse_k06_numbers_of_branches.main.body.getD i (.Pass ⟨0, 0, 0, 0⟩)
abbrev s_ways_through : Stmt := top 1
abbrev s_ways_at : Stmt := top 2
abbrev s_bag : Stmt := top 4
abbrev s_pull : Stmt := top 5
abbrev s_of : Stmt := top 6
abbrev s_mixed : Stmt := top 7
abbrev s_same : Stmt := top 8
abbrev s_gcd : Stmt := top 9
abbrev s_low : Stmt := top 10
abbrev s_share : Stmt := top 11
abbrev s_letters : Stmt := top 12
abbrev s_pool : Stmt := top 13
abbrev s_pieces : Stmt := top 14
abbrev s_fresh : Stmt := top 15
abbrev s_without : Stmt := top 16
abbrev s_ends : Stmt := top 17
abbrev s_ask : Stmt := top 18
abbrev s_lines : Stmt := top 19
abbrev s_drawn : Stmt := top 20
abbrev s_ways : Stmt := top 21
abbrev s_law : Stmt := top 22
theorem sc_ways_through : FnScope ["statements", "ways", "statement"] ["statements"] (defScope s_ways_through) := ⟨rfl, rfl, rfl, by decide +kernel, rfl, by decide +kernel, by decide +kernel⟩
theorem sc_ways_at : FnScope ["statement", "word"] ["statement"] (defScope s_ways_at) := ⟨rfl, rfl, rfl, by decide +kernel, rfl, by decide +kernel, by decide +kernel⟩
theorem sc_bag : FnScope ["_law_script", "_law_salt", "_law_cell"] ["_law_script"] (defScope s_bag) := ⟨rfl, rfl, rfl, by decide +kernel, rfl, by decide +kernel, by decide +kernel⟩
theorem sc_pull : FnScope ["_law_bag_here", "_law_many", "_law_cell", "_law_digit", "_law_seed"] ["_law_bag_here", "_law_many"] (defScope s_pull) := ⟨rfl, rfl, rfl, by decide +kernel, rfl, by decide +kernel, by decide +kernel⟩
theorem sc_of : FnScope ["_law_bag_here", "_law_some"] ["_law_bag_here", "_law_some"] (defScope s_of) := ⟨rfl, rfl, rfl, by decide +kernel, rfl, by decide +kernel, by decide +kernel⟩
theorem sc_mixed : FnScope ["_law_bag_here", "_law_some", "_law_left", "_law_found", "_law_turn"] ["_law_bag_here", "_law_some"] (defScope s_mixed) := ⟨rfl, rfl, rfl, by decide +kernel, rfl, by decide +kernel, by decide +kernel⟩
theorem sc_same : FnScope ["_law_found", "_law_due", "_law_k"] ["_law_found", "_law_due"] (defScope s_same) := ⟨rfl, rfl, rfl, by decide +kernel, rfl, by decide +kernel, by decide +kernel⟩
theorem sc_gcd : FnScope ["_law_a", "_law_b"] ["_law_a", "_law_b"] (defScope s_gcd) := ⟨rfl, rfl, rfl, by decide +kernel, rfl, by decide +kernel, by decide +kernel⟩
theorem sc_low : FnScope ["_law_a", "_law_b", "_law_by"] ["_law_a", "_law_b"] (defScope s_low) := ⟨rfl, rfl, rfl, by decide +kernel, rfl, by decide +kernel, by decide +kernel⟩
theorem sc_share : FnScope ["_law_bag_here", "_law_down"] ["_law_bag_here"] (defScope s_share) := ⟨rfl, rfl, rfl, by decide +kernel, rfl, by decide +kernel, by decide +kernel⟩
theorem sc_letters : FnScope [] [] (defScope s_letters) := ⟨rfl, rfl, rfl, by decide +kernel, rfl, by decide +kernel, by decide +kernel⟩
theorem sc_pool : FnScope ["_law_bag_here", "_law_many", "_law_stem", "_law_at", "_law_first", "_law_k"] ["_law_bag_here", "_law_many"] (defScope s_pool) := ⟨rfl, rfl, rfl, by decide +kernel, rfl, by decide +kernel, by decide +kernel⟩
theorem sc_pieces : FnScope ["_law_bag_here", "_law_name"] ["_law_bag_here"] (defScope s_pieces) := ⟨rfl, rfl, rfl, by decide +kernel, rfl, by decide +kernel, by decide +kernel⟩
theorem sc_fresh : FnScope ["_law_bag_here", "_law_pool_here", "_law_present", "_law_many", "_law_name"] ["_law_bag_here", "_law_pool_here", "_law_present", "_law_many"] (defScope s_fresh) := ⟨rfl, rfl, rfl, by decide +kernel, rfl, by decide +kernel, by decide +kernel⟩
theorem sc_without : FnScope ["_law_present", "_law_gone", "_law_name"] ["_law_present", "_law_gone"] (defScope s_without) := ⟨rfl, rfl, rfl, by decide +kernel, rfl, by decide +kernel, by decide +kernel⟩
theorem sc_ends : FnScope ["_law_bag_here", "_law_players", "_law_present", "_law_some", "_law_name", "_law_way", "_law_player"] ["_law_bag_here", "_law_players", "_law_present"] (defScope s_ends) := ⟨rfl, rfl, rfl, by decide +kernel, rfl, by decide +kernel, by decide +kernel⟩
theorem sc_ask : FnScope ["_law_bag_here", "_law_players", "_law_pool_here", "_law_present", "_law_room", "_law_wide", "_law_one", "_law_two", "_law_part", "_law_sides", "_law_k"] ["_law_bag_here", "_law_players", "_law_pool_here", "_law_present", "_law_room", "_law_wide"] (defScope s_ask) := ⟨rfl, rfl, rfl, by decide +kernel, rfl, by decide +kernel, by decide +kernel⟩
theorem sc_lines : FnScope ["_law_bag_here", "_law_players", "_law_pool_here", "_law_present", "_law_room", "_law_wide", "_law_way", "_law_player", "_law_shuffled", "_law_left", "_law_one", "_law_two", "_law_lines_here", "_law_many", "_law_used", "_law_names", "_law_name", "_law_last"] ["_law_bag_here", "_law_players", "_law_pool_here", "_law_present", "_law_room", "_law_wide"] (defScope s_lines) := ⟨rfl, rfl, rfl, by decide +kernel, rfl, by decide +kernel, by decide +kernel⟩
theorem sc_drawn : FnScope ["_law_bag_here", "_law_most", "_law_room", "_law_wide", "_law_players", "_law_pool_here"] ["_law_bag_here", "_law_most", "_law_room", "_law_wide"] (defScope s_drawn) := ⟨rfl, rfl, rfl, by decide +kernel, rfl, by decide +kernel, by decide +kernel⟩
theorem sc_ways : FnScope ["_law_lines_here", "_law_found", "_law_line"] ["_law_lines_here"] (defScope s_ways) := ⟨rfl, rfl, rfl, by decide +kernel, rfl, by decide +kernel, by decide +kernel⟩
theorem sc_law : FnScope ["_law_script", "_law_bag_here", "_law_turn", "_law_players", "_law_lines_here", "_law_more", "_law_step", "_law_far"] ["_law_script"] (defScope s_law) := ⟨rfl, rfl, rfl, by decide +kernel, rfl, by decide +kernel, by decide +kernel⟩
structure Df (K : PySem.W.Frag) (mg : Str → Option Value) (x : Str) (st : Stmt) (ps : List Str) (f : Addr) (fd : FuncData) : Prop where
  F : Fun K x x st f fd
  m : mg x = some (.ref f)
  b : Binds K fd ps []
structure Ad where
  f_ways_through : Addr
  fd_ways_through : FuncData
  f_ways_at : Addr
  fd_ways_at : FuncData
  f_bag : Addr
  fd_bag : FuncData
  f_pull : Addr
  fd_pull : FuncData
  f_of : Addr
  fd_of : FuncData
  f_mixed : Addr
  fd_mixed : FuncData
  f_same : Addr
  fd_same : FuncData
  f_gcd : Addr
  fd_gcd : FuncData
  f_low : Addr
  fd_low : FuncData
  f_share : Addr
  fd_share : FuncData
  f_letters : Addr
  fd_letters : FuncData
  f_pool : Addr
  fd_pool : FuncData
  f_pieces : Addr
  fd_pieces : FuncData
  f_fresh : Addr
  fd_fresh : FuncData
  f_without : Addr
  fd_without : FuncData
  f_ends : Addr
  fd_ends : FuncData
  f_ask : Addr
  fd_ask : FuncData
  f_lines : Addr
  fd_lines : FuncData
  f_drawn : Addr
  fd_drawn : FuncData
  f_ways : Addr
  fd_ways : FuncData
  f_law : Addr
  fd_law : FuncData
structure Txt (K : PySem.W.Frag) (mg : Str → Option Value) (A : Ad) : Prop where
  d_ways_through : Df K mg "ways_through" s_ways_through ["statements"] A.f_ways_through A.fd_ways_through
  d_ways_at : Df K mg "ways_at" s_ways_at ["statement"] A.f_ways_at A.fd_ways_at
  d_bag : Df K mg "_law_bag" s_bag ["_law_script"] A.f_bag A.fd_bag
  d_pull : Df K mg "_law_pull" s_pull ["_law_bag_here", "_law_many"] A.f_pull A.fd_pull
  d_of : Df K mg "_law_of" s_of ["_law_bag_here", "_law_some"] A.f_of A.fd_of
  d_mixed : Df K mg "_law_mixed" s_mixed ["_law_bag_here", "_law_some"] A.f_mixed A.fd_mixed
  d_same : Df K mg "_law_same" s_same ["_law_found", "_law_due"] A.f_same A.fd_same
  d_gcd : Df K mg "_law_gcd" s_gcd ["_law_a", "_law_b"] A.f_gcd A.fd_gcd
  d_low : Df K mg "_law_low" s_low ["_law_a", "_law_b"] A.f_low A.fd_low
  d_share : Df K mg "_law_share" s_share ["_law_bag_here"] A.f_share A.fd_share
  d_letters : Df K mg "_law_letters" s_letters [] A.f_letters A.fd_letters
  d_pool : Df K mg "_law_pool" s_pool ["_law_bag_here", "_law_many"] A.f_pool A.fd_pool
  d_pieces : Df K mg "_law_pieces" s_pieces ["_law_bag_here"] A.f_pieces A.fd_pieces
  d_fresh : Df K mg "_law_fresh" s_fresh ["_law_bag_here", "_law_pool_here", "_law_present", "_law_many"] A.f_fresh A.fd_fresh
  d_without : Df K mg "_law_without" s_without ["_law_present", "_law_gone"] A.f_without A.fd_without
  d_ends : Df K mg "_law_ends" s_ends ["_law_bag_here", "_law_players", "_law_present"] A.f_ends A.fd_ends
  d_ask : Df K mg "_law_ask" s_ask ["_law_bag_here", "_law_players", "_law_pool_here", "_law_present", "_law_room", "_law_wide"] A.f_ask A.fd_ask
  d_lines : Df K mg "_law_lines" s_lines ["_law_bag_here", "_law_players", "_law_pool_here", "_law_present", "_law_room", "_law_wide"] A.f_lines A.fd_lines
  d_drawn : Df K mg "_law_drawn" s_drawn ["_law_bag_here", "_law_most", "_law_room", "_law_wide"] A.f_drawn A.fd_drawn
  d_ways : Df K mg "_law_ways" s_ways ["_law_lines_here"] A.f_ways A.fd_ways
  d_law : Df K mg "law" s_law ["_law_script"] A.f_law A.fd_law
  abs : mg "abs" = none
  all : mg "all" = none
  bool : mg "bool" = none
  int : mg "int" = none
  isinstance : mg "isinstance" = none
  len : mg "len" = none
  list : mg "list" = none
  min : mg "min" = none
  range : mg "range" = none
  str : mg "str" = none
  tuple : mg "tuple" = none
/-! ## Fractions: the mathematics, over Lean's own Rat -/
namespace RM
theorem num_pos {a b : Int} (h : 0 < b) : (Rat.divInt a b).num = a / ((Int.gcd a b : Nat) : Int) := by
  rw [Rat.num_divInt, Int.sign_eq_one_of_pos h, Int.one_mul, Int.gcd_comm]
theorem den_any {a b : Int} (h : b ≠ 0) : (((Rat.divInt a b).den : Nat) : Int) = ((b.natAbs : Nat) : Int) / ((Int.gcd a b : Nat) : Int) := by
  rw [Rat.den_divInt, if_neg h, Int.gcd_comm, Int.natCast_ediv]
theorem den_pos {a b : Int} (h : 0 < b) : (((Rat.divInt a b).den : Nat) : Int) = b / ((Int.gcd a b : Nat) : Int) := by
  rw [den_any (by omega), Int.natAbs_of_nonneg (by omega)]
theorem gcd_ne {a b : Int} (h : b ≠ 0) : ((Int.gcd a b : Nat) : Int) ≠ 0 := by
  have : Int.gcd a b ≠ 0 := by
    intro e
    rw [Int.gcd_eq_zero_iff] at e
    exact h e.2
  omega
theorem gcd_posi {a b : Int} (h : b ≠ 0) : 0 < ((Int.gcd a b : Nat) : Int) := by
  have := gcd_ne (a := a) h
  omega
theorem fdiv_neg_dvd {a g : Int} (hg : g ≠ 0) (h : g ∣ a) : a.fdiv (-g) = -(a / g) := by
  rw [Int.fdiv_neg hg, if_pos h, Int.fdiv_eq_ediv_of_dvd h]
theorem num_neg {a b : Int} (h : b < 0) : (Rat.divInt a b).num = a.fdiv (-((Int.gcd a b : Nat) : Int)) := by
  rw [fdiv_neg_dvd (gcd_ne (by omega)) (Int.gcd_dvd_left ..), Rat.num_divInt, Int.sign_eq_neg_one_of_neg h, Int.gcd_comm]
  rw [Int.neg_mul, Int.one_mul, Int.neg_ediv_of_dvd (Int.gcd_dvd_left ..)]
theorem den_neg {a b : Int} (h : b < 0) : (((Rat.divInt a b).den : Nat) : Int) = b.fdiv (-((Int.gcd a b : Nat) : Int)) := by
  rw [fdiv_neg_dvd (gcd_ne (by omega)) (Int.gcd_dvd_right ..), den_any (by omega), ← Int.neg_ediv_of_dvd (Int.gcd_dvd_right ..)]
  congr 1
  omega
theorem gcd_step (a b : Int) : Int.gcd b (a % b) = Int.gcd a b := by
  have h := Int.gcd_add_mul_left_right b (a % b) (a / b)
  rw [Int.emod_add_mul_ediv] at h
  rw [← h, Int.gcd_comm]
theorem add_eq (x y : Rat) : Rat.divInt (x.num * y.den + y.num * x.den) (x.den * y.den) = x + y := by
  have h := Rat.divInt_add_divInt x.num y.num (d₁ := x.den) (d₂ := y.den) (by have := x.den_nz; omega) (by have := y.den_nz; omega)
  rw [Rat.num_divInt_den, Rat.num_divInt_den] at h
  exact h.symm
theorem mul_eq (x y : Rat) : Rat.divInt (x.num * y.num) (x.den * y.den) = x * y := by
  have h := Rat.divInt_mul_divInt x.num y.num (d₁ := x.den) (d₂ := y.den)
  rw [Rat.num_divInt_den, Rat.num_divInt_den] at h
  exact h.symm
theorem den_p (x : Rat) : (0 : Int) < ((x.den : Nat) : Int) := by
  have := x.den_nz
  omega
/-- numbers below 2 ^ k -/
def Bd (k : Nat) (x : Rat) : Prop := x.num.natAbs < 2 ^ k ∧ x.den < 2 ^ k
theorem pow_le {j k : Nat} (h : j ≤ k) : 2 ^ j ≤ 2 ^ k := Nat.pow_le_pow_right (by decide) h
theorem Bd.mono {j k : Nat} {x : Rat} (b : Bd j x) (h : j ≤ k) : Bd k x := ⟨Nat.lt_of_lt_of_le b.1 (pow_le h), Nat.lt_of_lt_of_le b.2 (pow_le h)⟩
theorem div_num_le {a b : Int} (h : b ≠ 0) : (Rat.divInt a b).num.natAbs ≤ a.natAbs := by
  by_cases h1 : 0 < b
  · rw [num_pos h1]
    exact Int.natAbs_ediv_le_natAbs ..
  · rw [num_neg (by omega), fdiv_neg_dvd (gcd_ne h) (Int.gcd_dvd_left ..), Int.natAbs_neg]
    exact Int.natAbs_ediv_le_natAbs ..
theorem div_den_le {a b : Int} (h : b ≠ 0) : (Rat.divInt a b).den ≤ b.natAbs := by
  rw [Rat.den_divInt, if_neg h]
  exact Nat.div_le_self _ _
theorem Bd.div {a b : Int} {k : Nat} (h : b ≠ 0) (ha : a.natAbs < 2 ^ k) (hb : b.natAbs < 2 ^ k) : Bd k (Rat.divInt a b) :=
  ⟨Nat.lt_of_le_of_lt (div_num_le h) ha, Nat.lt_of_le_of_lt (div_den_le h) hb⟩
theorem abs_mul_lt {a b : Int} {j k : Nat} (ha : a.natAbs < 2 ^ j) (hb : b.natAbs < 2 ^ k) : (a * b).natAbs < 2 ^ (j + k) := by
  rw [Int.natAbs_mul, Nat.pow_add]
  exact Nat.mul_lt_mul'' ha hb
theorem abs_add_lt {a b : Int} {k : Nat} (ha : a.natAbs < 2 ^ k) (hb : b.natAbs < 2 ^ k) : (a + b).natAbs < 2 ^ (k + 1) := by
  rw [Nat.pow_succ]
  omega
theorem nat_abs (n : Nat) : ((n : Nat) : Int).natAbs = n := Int.natAbs_natCast n
theorem Bd.den {k : Nat} {x : Rat} (b : Bd k x) : ((x.den : Nat) : Int).natAbs < 2 ^ k := by
  rw [nat_abs]
  exact b.2
theorem cross_lt {j k : Nat} {x y : Rat} (bx : Bd j x) (bY : Bd k y) : (x.num * y.den + y.num * x.den).natAbs < 2 ^ (j + k + 1) :=
  abs_add_lt (abs_mul_lt bx.1 bY.den) (by rw [Nat.add_comm j k]; exact abs_mul_lt bY.1 bx.den)
theorem dd_ne (x y : Rat) : ((x.den : Nat) : Int) * ((y.den : Nat) : Int) ≠ 0 := Int.ne_of_gt (Int.mul_pos (den_p x) (den_p y))
theorem dd_pos (x y : Rat) : 0 < ((x.den : Nat) : Int) * ((y.den : Nat) : Int) := Int.mul_pos (den_p x) (den_p y)
theorem Bd.add {j k : Nat} {x y : Rat} (bx : Bd j x) (bY : Bd k y) : Bd (j + k + 1) (x + y) := by
  rw [← add_eq]
  exact Bd.div (dd_ne x y) (cross_lt bx bY) (Nat.lt_of_lt_of_le (abs_mul_lt bx.den bY.den) (pow_le (by omega)))
theorem Bd.mul {j k : Nat} {x y : Rat} (bx : Bd j x) (bY : Bd k y) : Bd (j + k) (x * y) := by
  rw [← mul_eq]
  exact Bd.div (dd_ne x y) (abs_mul_lt bx.1 bY.1) (abs_mul_lt bx.den bY.den)
theorem Bd.neg {k : Nat} {x : Rat} (b : Bd k x) : Bd k (-x) := by
  refine ⟨?_, ?_⟩
  · rw [Rat.neg_num, Int.natAbs_neg]
    exact b.1
  · rw [Rat.neg_den]
    exact b.2
theorem Bd.zero {k : Nat} (h : 1 ≤ k) : Bd k 0 := Bd.mono (j := 1) ⟨by decide, by decide⟩ h
theorem Bd.one {k : Nat} (h : 1 ≤ k) : Bd k 1 := Bd.mono (j := 1) ⟨by decide, by decide⟩ h
/-- sums and products from the left -/
def sumR (qs : List Rat) : Rat := qs.foldl (· + ·) 0
def mulR (qs : List Rat) : Rat := qs.foldl (· * ·) 1
theorem take_succ {α : Type} {xs : List α} {i : Nat} {x : α} (h : xs[i]? = some x) : xs.take (i + 1) = xs.take i ++ [x] := by
  rw [List.take_add_one, h]
  rfl
theorem sum_snoc (qs : List Rat) (x : Rat) : sumR (qs ++ [x]) = sumR qs + x := by
  unfold sumR
  rw [List.foldl_append]
  rfl
theorem mul_snoc (qs : List Rat) (x : Rat) : mulR (qs ++ [x]) = mulR qs * x := by
  unfold mulR
  rw [List.foldl_append]
  rfl
/-- one step of a sum whose denominator is not reduced, g a common divisor of both denominators -/
theorem part_step {n d a b g : Int} (hd : d ≠ 0) (hb : b ≠ 0) (h1 : g ∣ d) (h2 : g ∣ b) : Rat.divInt (n * (b / g) + a * (d / g)) (d * (b / g)) = Rat.divInt n d + Rat.divInt a b := by
  obtain ⟨u, rfl⟩ := h1
  obtain ⟨v, rfl⟩ := h2
  have hg : g ≠ 0 := fun z => hd (by rw [z, Int.zero_mul])
  rw [Int.mul_ediv_cancel_left _ hg, Int.mul_ediv_cancel_left _ hg, Rat.divInt_add_divInt _ _ hd hb, ← Rat.divInt_mul_left hg]
  congr 1
  · rw [Int.mul_add]
    congr 1 <;> ac_rfl
  · ac_rfl
end RM

/-! ## The law's own helpers: the bag, its draws, the comparison -/
theorem _root_.L2.Same.new {H : Hp} {p : Addr} (h : H p = none) (o : HO) : Same H (upd H p o) := fun b u q => by rw [upd_ne (ne_of_none q h)]; exact q
theorem _root_.L2.Same.set {H H' : Hp} {p : Addr} (e : Same H H') (h : H p = none) (o : HO) : Same H (upd H' p o) := fun b u q => by rw [upd_ne (ne_of_none q h)]; exact e b u q
theorem sl_small {n : Nat} (h : n ≤ 100000) : n ≤ sizeLine := Nat.le_trans h (by decide)
theorem sl_lt {n : Nat} (h : n < 100000) : n < sizeLine := Nat.lt_of_lt_of_le h (by decide)
theorem slr {n : Nat} (h : Nat.ble n 100000 = true) : n ≤ sizeLine := sl_small (Nat.le_of_ble_eq_true h)
theorem dec_t {p : Prop} [Decidable p] (h : p) : decide p = true := decide_eq_true h
def rLenK (K : PySem.W.Frag) : List V → Hp → VK → Prop := fun xs H Q => ∃ p ys, xs = [.ref p] ∧ (SqL K H p ys ∨ SqT K H p ys) ∧ Q (.int ys.length) H
def rListK (K : PySem.W.Frag) : List V → Hp → VK → Prop := fun xs H Q => ∃ p ys, xs = [.ref p] ∧ (SqL K H p ys ∨ SqT K H p ys) ∧ ∀ l, H l = none → Q (.ref l) (upd H l (.lst ys))
def rTupK (K : PySem.W.Frag) : List V → Hp → VK → Prop := fun xs H Q => ∃ p ys, xs = [.ref p] ∧ ((SqL K H p ys ∧ ∀ l, H l = none → Q (.ref l) (upd H l (.tup ys))) ∨ (SqT K H p ys ∧ Q (.ref p) H))
/-- what holds between two statements -/
theorem seq_key {t u : TS} {D : Ends} {σ : St} {H : Hp} (P : St → Hp → Prop) (h2 : ∀ σ H, P σ H → u D σ H) (h1 : (∀ σ H, P σ H → u D σ H) → t { D with nx := u D } σ H) : tSeq t u D σ H := h1 h2
/-- all but the object at b is as it was -/
def Apart (b : Addr) (H H' : Hp) : Prop := ∀ a o, a ≠ b → H a = some o → H' a = some o
theorem Apart.refl (b : Addr) (H : Hp) : Apart b H H := fun _ _ _ h => h
theorem Apart.trans {b : Addr} {H H1 H2 : Hp} (x : Apart b H H1) (y : Apart b H1 H2) : Apart b H H2 := fun a o n e => y a o n (x a o n e)
theorem _root_.L2.Same.apart {b : Addr} {H H' : Hp} (x : Same H H') : Apart b H H' := fun a o _ e => x a o e
theorem Apart.set {b : Addr} {H : Hp} (o : HO) : Apart b H (upd H b o) := fun a u n e => by rw [upd_ne n]; exact e
/-- the bag: its list of numbers l, the numbers ns, the place i, the rest c, the seed s, the count t -/
def bagL (l : Addr) (i c s t : Int) : List V := [.ref l, .int i, .int c, .int s, .int t]
structure Bag (H : Hp) (b l : Addr) : Prop where
  ex : ∃ (ns : List Int) (i c s t : Int), H b = some (.lst (bagL l i c s t)) ∧ H l = some (.lst (ns.map V.int)) ∧ 0 ≤ i ∧ 0 ≤ c ∧ 0 ≤ s ∧ s < 2147483647
theorem bag_ne {l : Addr} {i c s t : Int} {ns : List Int} : HO.lst (ns.map V.int) ≠ HO.lst (bagL l i c s t) := by
  intro e
  injection e with e
  cases ns with
  | nil => cases e
  | cons _ _ => cases e
theorem Bag.same {H H' : Hp} {b l : Addr} (x : Bag H b l) (e : Same H H') : Bag H' b l := by
  obtain ⟨ns, i, c, s, t, h1, h2, h⟩ := x.ex
  exact ⟨ns, i, c, s, t, e _ _ h1, e _ _ h2, h⟩
theorem Bag.there {H : Hp} {b l : Addr} (x : Bag H b l) : ∃ xs, H b = some (.lst xs) := by
  obtain ⟨ns, i, c, s, t, h1, _⟩ := x.ex
  exact ⟨_, h1⟩
theorem Bag.inner {H : Hp} {b l : Addr} (x : Bag H b l) : ∃ xs, H l = some (.lst xs) := by
  obtain ⟨ns, i, c, s, t, h1, h2, _⟩ := x.ex
  exact ⟨_, h2⟩
theorem Bag.new {H : Hp} {b l p : Addr} (x : Bag H b l) (h : H p = none) (o : HO) : Bag (upd H p o) b l := x.same (Same.new h o)
theorem Bag.ne {H : Hp} {b l p : Addr} (x : Bag H b l) (h : H p = none) : p ≠ b := by
  obtain ⟨_, h1⟩ := x.there
  exact (ne_of_none h1 h).symm
theorem Bag.ne2 {H : Hp} {b l p : Addr} (x : Bag H b l) (h : H p = none) : p ≠ l := by
  obtain ⟨_, h1⟩ := x.inner
  exact (ne_of_none h1 h).symm
theorem Bag.nt {H : Hp} {b l p : Addr} {xs : List V} (x : Bag H b l) (h : H p = some (.tup xs)) : p ≠ b := by
  obtain ⟨_, h1⟩ := x.there
  exact ne_of h h1 (fun z => nomatch z)
theorem Bag.upd {H : Hp} {b l p : Addr} {o : HO} (x : Bag H b l) (h1 : p ≠ b) (h2 : p ≠ l) : Bag (upd H p o) b l := by
  obtain ⟨ns, i, c, s, t, e1, e2, h⟩ := x.ex
  exact ⟨ns, i, c, s, t, by rw [upd_ne (Ne.symm h1)]; exact e1, by rw [upd_ne (Ne.symm h2)]; exact e2, h⟩
theorem Bag.put {H : Hp} {b l : Addr} {ns : List Int} {i c s t : Int} {i' c' s' t' : Int} (h1 : H b = some (.lst (bagL l i c s t))) (h2 : H l = some (.lst (ns.map V.int))) (hi : 0 ≤ i') (hc : 0 ≤ c') (hs : 0 ≤ s') (hs2 : s' < 2147483647) :
    Bag (L2.upd H b (.lst (bagL l i' c' s' t'))) b l := ⟨ns, i', c', s', t', upd_same, by rw [upd_ne (ne_of h2 h1 bag_ne)]; exact h2, hi, hc, hs, hs2⟩

def spBag (K : PySem.W.Frag) : Sp := fun vs H Q _ => ∃ (a : Addr) (ns : List Int), vs = [.ref a] ∧ SqL K H a (ns.map V.int) ∧ ns.length ≤ 63 ∧ ∀ (b l : Addr) (H' : Hp), Same H H' → H b = none → H l = none → Bag H' b l → Q (.ref b) H'
def spPull : Sp := fun vs H Q _ => ∃ (b l : Addr) (m : Int), vs = [.ref b, .int m] ∧ Bag H b l ∧ 0 < m ∧ m.natAbs < 2 ^ 200 ∧ ∀ (r : Int) (H' : Hp), 0 ≤ r → r < m → Apart b H H' → Bag H' b l → Q (.int r) H'
def spOf (K : PySem.W.Frag) : Sp := fun vs H Q _ => ∃ (b l a : Addr) (xs : List V), vs = [.ref b, .ref a] ∧ Bag H b l ∧ SqL K H a xs ∧ a ≠ b ∧ 0 < xs.length ∧ xs.length ≤ 1000 ∧ ∀ (i : Nat) (v : V) (H' : Hp), xs[i]? = some v → Apart b H H' → Bag H' b l → Q v H'

section
variable {P : Program} {w : World} {K : PySem.W.Frag} {mg : Str → Option Value} {base : Heap} {A : Ad}
theorem cut_ints (ns : List Int) (lo hi : Option Int) : ∃ ms : List Int, cutV (ns.map V.int) lo hi = ms.map V.int := by
  unfold cutV
  rw [← List.map_drop, ← List.map_take]
  exact ⟨_, rfl⟩
theorem int_at {ns : List Int} {i : Nat} {x : V} (h : (ns.map V.int)[i]? = some x) : ∃ u, x = V.int u := by
  rw [List.getElem?_map] at h
  cases e : ns[i]? with
  | none => rw [e] at h; cases h
  | some u => rw [e] at h; exact ⟨u, (Option.some.inj h).symm⟩
theorem ok_bag (T : Txt K mg A) : FnOk P w K mg base CX0 1 A.f_bag A.fd_bag ["_law_script"] (spBag K) := by
  refine T.d_bag.F.ok sc_bag (fun vs H Q E h => ?_) (fun cdv ar outer s H vs Q E hr h => ?_)
  · obtain ⟨a, ns, rfl, _⟩ := h
    rfl
  obtain ⟨a, ns, rfl, hS, h63, q⟩ := h
  refine ⟨_, (pss_cons (ps_set (i := 1) sc_bag.nd rfl (Or.inl rfl) pe_int)
    (pss_cons (ps_for PassesOwn.never rfl (pi_list (pe_slice (r := rSlL K) sl_list (pv 0) po_none (po_some pe_int))) (pg_name (i := 2) sc_bag.nd rfl (Or.inl rfl)) (pss_one (ps_set (i := 1) sc_bag.nd rfl (Or.inl rfl) (pe_op op_mod (pe_op op_add (pe_op op_add (pe_op op_mul (pv 1) pe_int) (pe_op op_mod (pv 2) pe_int)) pe_int) pe_int))))
    (pss_one (ps_ret (pe_lst (pa_cons (pe_callTy (r := rListK K) call_list_of (by rfl) T.list (by decide +kernel) (pa_cons (pe_slice (r := rSlL K) sl_list (pv 0) po_none (po_some pe_int)) pa_nil)) (pa_cons pe_int (pa_cons pe_int (pa_cons (pv 1) (pa_cons pe_int pa_nil)))))))))), ?_⟩
  refine ⟨_, rfl, 63, rfl, a, _, rfl, hS, fun p hp => ?_⟩
  refine ⟨p, rfl, ⟨_, SqL.of upd_same⟩, ?_⟩
  obtain ⟨ms, em⟩ := cut_ints ns none (some 63)
  have s1 : Same H (upd H p (.lst (cutV (ns.map V.int) none (some 63)))) := Same.new hp _
  refine for_list (xs := cutV (ns.map V.int) none (some 63)) (fun _ σ H' => ∃ (z : Int) (u : Option V), σ = [some (.ref a), some (.int z), u] ∧ 0 ≤ z ∧ z < 2147483647 ∧ H' = upd H p (.lst (cutV (ns.map V.int) none (some 63)))) ⟨3801, none, rfl, by decide, by decide, rfl⟩ ?_ ?_ ?_
  · rintro i σ H' _ ⟨z, u, _, _, _, rfl⟩
    exact SqL.of upd_same
  · rintro i x σ H' hi ⟨z, u, rfl, z0, z1, rfl⟩
    rw [em] at hi
    obtain ⟨y, rfl⟩ := int_at hi
    refine ⟨_, rfl, _, _, rfl, rfl, .inr ⟨by decide, by decide⟩, _, rfl, _, _, rfl, rfl, (by show (0 : Int) < 2147483549; decide), _, _, rfl, rfl, _, _, rfl, rfl, _, _, rfl, rfl, (by show (0 : Int) < 2147483647; decide), ?_⟩
    exact ⟨_, _, rfl, Int.emod_nonneg _ (by decide), Int.emod_lt_of_pos _ (by decide), rfl⟩
  · rintro σ H' ⟨z, u, rfl, z0, z1, rfl⟩
    refine ⟨_, rfl, 63, rfl, a, _, rfl, s1.seq hS, fun p2 hp2 => ?_⟩
    refine ⟨p2, _, rfl, .inl (SqL.of upd_same), fun l hl => ?_⟩
    refine ⟨_, rfl, (by show 5 ≤ sizeLine; decide), fun b hb => ?_⟩
    have s2 := s1.set (s1.free hp2) (.lst (cutV (ns.map V.int) none (some 63)))
    have s3 := s2.set (s2.free hl) (.lst (cutV (ns.map V.int) none (some 63)))
    have s4 := s3.set (s3.free hb) (.lst [.ref l, .int 0, .int 0, .int z, .int 0])
    refine q b l _ s4 (s3.free hb) (s2.free hl) ⟨ms, 0, 0, z, 0, upd_same, ?_, by decide, by decide, z0, z1⟩
    rw [upd_ne (ne_of_none upd_same hb), upd_same, em]
theorem ok_pull (T : Txt K mg A) : FnOk P w K mg base CX0 1 A.f_pull A.fd_pull ["_law_bag_here", "_law_many"] spPull := by
  refine T.d_pull.F.ok sc_pull (fun vs H Q E h => ?_) (fun cdv ar outer s H vs Q E hr h => ?_)
  · obtain ⟨b, l, m, rfl, _⟩ := h
    rfl
  obtain ⟨b, l, m, rfl, ⟨⟨ns, i, c, s, t, h1, h2, hi, hc, hs, hs2⟩⟩, hm, hm2, q⟩ := h
  refine ⟨_, (pss_cons (ps_if (PW.pt (pw_and (pt_cmpR op_eq (pe_ix (r := rIxL K) ix_list (pv 0) pe_int (fun _ _ => rfl)) pe_int (nomark _)) (pw_and1 (pt_cmpR op_lt (pe_ix (r := rIxL K) ix_list (pv 0) pe_int (fun _ _ => rfl)) (pe_callB (r := rLenK K) call_len_seq (by rfl) T.len (by decide +kernel) (pa_cons (pe_ix (r := rIxL K) ix_list (pv 0) pe_int (fun _ _ => rfl)) pa_nil)) (nomark _))))) (pss_cons (ps_set (i := 2) sc_pull.nd rfl (Or.inl rfl) (pe_ix (r := rIxL K) ix_list (pe_ix (r := rIxL K) ix_list (pv 0) pe_int (fun _ _ => rfl)) (pe_ix (r := rIxL K) ix_list (pv 0) pe_int (fun _ _ => rfl)) (fun _ _ => rfl)))
    (pss_cons (ps_asg (pe_op op_add (pe_ix (r := rIxL K) ix_list (pv 0) pe_int (fun _ _ => rfl)) pe_int) (pg_sub (pv 0) pe_int set_list))
    (pss_one (ps_if (pt_cmpR op_ge (pv 2) (pe_op op_pow pe_int pe_int) (nomark _)) (pss_one (ps_asg (pv 2) (pg_sub (pv 0) pe_int set_list))) (pss_one (ps_asg (pe_op op_mod (pe_op op_add (pe_op op_add (pe_op op_mul (pe_ix (r := rIxL K) ix_list (pv 0) pe_int (fun _ _ => rfl)) pe_int) (pe_op op_mul (pe_op op_mod (pv 2) pe_int) pe_int)) pe_int) pe_int) (pg_sub (pv 0) pe_int set_list))))))) pss_nil)
    (pss_cons (ps_if (pt_cmpR op_gt (pe_ix (r := rIxL K) ix_list (pv 0) pe_int (fun _ _ => rfl)) pe_int (nomark _)) (pss_cons (ps_set (i := 3) sc_pull.nd rfl (Or.inl rfl) (pe_op op_mod (pe_ix (r := rIxL K) ix_list (pv 0) pe_int (fun _ _ => rfl)) (pv 1)))
    (pss_cons (ps_asg (pe_op op_fdivW (pe_ix (r := rIxL K) ix_list (pv 0) pe_int (fun _ _ => rfl)) (pv 1)) (pg_sub (pv 0) pe_int set_list))
    (pss_one (ps_ret (pv 3))))) pss_nil)
    (pss_cons (ps_asg (pe_op op_add (pe_ix (r := rIxL K) ix_list (pv 0) pe_int (fun _ _ => rfl)) pe_int) (pg_sub (pv 0) pe_int set_list))
    (pss_cons (ps_set (i := 4) sc_pull.nd rfl (Or.inl rfl) (pe_op op_mod (pe_op op_add (pe_ix (r := rIxL K) ix_list (pv 0) pe_int (fun _ _ => rfl)) (pe_op op_mul (pe_ix (r := rIxL K) ix_list (pv 0) pe_int (fun _ _ => rfl)) pe_int)) pe_int))
    (pss_cons (ps_asg (pe_op op_mod (pe_op op_add (pe_op op_add (pe_op op_mul (pe_op op_mod (pe_op op_mul (pv 4) (pv 4)) pe_int) (pv 4)) (pe_op op_mul pe_int (pv 4))) pe_int) pe_int) (pg_sub (pv 0) pe_int set_list))
    (pss_one (ps_ret (pe_op op_mod (pe_op op_add (pe_op op_fdiv (pe_ix (r := rIxL K) ix_list (pv 0) pe_int (fun _ _ => rfl)) pe_int) (pe_op op_mul (pe_op op_mod (pe_ix (r := rIxL K) ix_list (pv 0) pe_int (fun _ _ => rfl)) pe_int) pe_int)) (pv 1))))))))), ?_⟩
  have hbL : SqL K H b (bagL l i c s t) := SqL.of h1
  have a0 : ∀ {i c s t : Int}, atI (bagL l i c s t) 0 = some (.ref l) := at_of (j := 0) rfl rfl
  have a1 : ∀ {i c s t : Int}, atI (bagL l i c s t) 1 = some (.int i) := at_of (j := 1) rfl rfl
  have a2 : ∀ {i c s t : Int}, atI (bagL l i c s t) 2 = some (.int c) := at_of (j := 2) rfl rfl
  have a3 : ∀ {i c s t : Int}, atI (bagL l i c s t) 3 = some (.int s) := at_of (j := 3) rfl rfl
  have a4 : ∀ {i c s t : Int}, atI (bagL l i c s t) 4 = some (.int t) := at_of (j := 4) rfl rfl
  refine seq_key (fun σ' H' => ∃ (i c s : Int) (u : Option V), σ' = [some (.ref b), some (.int m), u, none, none] ∧ 0 ≤ i ∧ 0 ≤ c ∧ 0 ≤ s ∧ s < 2147483647 ∧ Apart b H H' ∧ H' b = some (.lst (bagL l i c s t)) ∧ H' l = some (.lst (ns.map V.int))) ?_ (fun k => ?_)
  · rintro σ' H' ⟨i, c, s, u, rfl, hi, hc, hs, hs2, hA, h1, h2⟩
    have hbL : SqL K H' b (bagL l i c s t) := SqL.of h1
    refine seq_key (fun σ' H2 => σ' = [some (.ref b), some (.int m), u, none, none] ∧ H' = H2) ?_ (fun k => ?_)
    · rintro _ _ ⟨rfl, rfl⟩
      -- the count, the seed, the draw
      refine ⟨_, rfl, b, _, _, _, rfl, rfl, hbL, a4, _, _, rfl, rfl, _, rfl, b, _, _, _, rfl, rfl, h1, rfl, ?_⟩
      refine ⟨_, rfl, b, _, _, _, rfl, rfl, SqL.of upd_same, at_of (j := 3) rfl rfl, _, rfl, b, _, _, _, rfl, rfl, SqL.of upd_same, at_of (j := 4) rfl rfl, _, _, rfl, rfl, .inr ⟨by decide, by decide⟩, _, _, rfl, rfl, _, _, rfl, rfl, (by show (0 : Int) < 2147483647; decide), ?_⟩
      have d0 : 0 ≤ (s + (t + 1) * 7919) % 2147483647 := Int.emod_nonneg _ (by decide)
      have d1 : (s + (t + 1) * 7919) % 2147483647 < 2147483647 := Int.emod_lt_of_pos _ (by decide)
      have d2 : -(2 ^ 64) < (s + (t + 1) * 7919) % 2147483647 ∧ (s + (t + 1) * 7919) % 2147483647 < 2 ^ 64 := ⟨by omega, by omega⟩
      refine ⟨_, rfl, _, rfl, _, _, rfl, rfl, .inr d2, _, _, rfl, rfl, (by show (0 : Int) < 2147483629; decide), _, rfl, _, _, rfl, rfl, .inr d2, _, rfl, _, _, rfl, rfl, .inl ⟨by decide, by decide⟩, _, _, rfl, rfl, _, _, rfl, rfl, _, _, rfl, rfl, (by show (0 : Int) < 2147483647; decide), ?_⟩
      refine ⟨_, rfl, b, _, _, _, rfl, rfl, upd_same, rfl, ?_⟩
      refine ⟨_, rfl, b, _, _, _, rfl, rfl, SqL.of upd_same, at_of (j := 3) rfl rfl, _, _, rfl, rfl, ⟨by decide, by decide⟩, _, rfl, b, _, _, _, rfl, rfl, SqL.of upd_same, at_of (j := 3) rfl rfl, _, _, rfl, rfl, (by show (0 : Int) < 8191; decide), _, _, rfl, rfl, .inr ⟨by decide, by decide⟩, _, _, rfl, rfl, _, rfl, _, _, rfl, rfl, hm, ?_⟩
      refine q _ _ (Int.emod_nonneg _ (Int.ne_of_gt hm)) (Int.emod_lt_of_pos _ hm) ((hA.trans (Apart.set _)).trans (Apart.set _)) ?_
      refine Bag.put (i := i) (c := c) (s := s) (t := t + 1) (ns := ns) (i' := i) (c' := c) (t' := t + 1) upd_same ?_ hi hc (Int.emod_nonneg _ (by decide)) (Int.emod_lt_of_pos _ (by decide))
      rw [upd_ne (ne_of h2 h1 bag_ne)]
      exact h2
    · refine ⟨_, rfl, b, _, _, _, rfl, rfl, hbL, a2, _, _, rfl, rfl, _, rfl, ?_⟩
      refine ite2 (fun c0 => ?_) (fun c0 => ?_)
      · refine ⟨_, rfl, b, _, _, _, rfl, rfl, hbL, a2, _, rfl, _, _, rfl, rfl, hm, ?_⟩
        refine ⟨_, rfl, b, _, _, _, rfl, rfl, hbL, a2, _, rfl, _, _, rfl, rfl, wide_div hm hm2 (by decide) (by decide), _, rfl, b, _, _, _, rfl, rfl, h1, rfl, ?_⟩
        refine ⟨_, rfl, ?_⟩
        refine q _ _ (Int.emod_nonneg _ (Int.ne_of_gt hm)) (Int.emod_lt_of_pos _ hm) (hA.trans (Apart.set _)) ?_
        exact Bag.put h1 h2 hi (Int.ediv_nonneg hc (Int.le_of_lt hm)) hs hs2
      · exact k _ _ ⟨rfl, rfl⟩
  · refine ⟨_, rfl, b, _, _, _, rfl, rfl, hbL, a2, rfl, _, rfl, ?_⟩
    refine ite2 (fun c0 => ?_) (fun c0 => ?_)
    · refine ⟨_, rfl, b, _, _, _, rfl, rfl, hbL, a1, _, rfl, b, _, _, _, rfl, rfl, hbL, a0, l, _, rfl, .inl (SqL.of h2), _, _, rfl, rfl, _, rfl, ?_⟩
      refine ite2 (fun c1 => ?_) (fun c1 => ?_)
      · have c2 : i < (((ns.map V.int).length : Nat) : Int) := of_decide_eq_true c1
        rw [List.length_map] at c2
        obtain ⟨z, hz⟩ : ∃ z : Int, (ns.map V.int)[i.toNat]? = some (.int z) := by
          rw [List.getElem?_map, List.getElem?_eq_getElem (by omega)]
          exact ⟨_, rfl⟩
        refine ⟨_, rfl, b, _, _, _, rfl, rfl, hbL, a0, _, rfl, b, _, _, _, rfl, rfl, hbL, a1, l, _, _, _, rfl, rfl, SqL.of h2, at_of (j := i.toNat) (by omega) hz, ?_⟩
        refine ⟨_, rfl, b, _, _, _, rfl, rfl, hbL, a1, _, _, rfl, rfl, _, rfl, b, _, _, _, rfl, rfl, h1, rfl, ?_⟩
        have g1 : SqL K (upd H b (.lst (bagL l (i + 1) c s t))) b (bagL l (i + 1) c s t) := SqL.of upd_same
        have g2 : upd H b (.lst (bagL l (i + 1) c s t)) l = some (.lst (ns.map V.int)) := by
          rw [upd_ne (ne_of h2 h1 bag_ne)]
          exact h2
        refine ⟨_, rfl, _, _, rfl, rfl, ⟨by decide, by decide, by decide⟩, _, _, rfl, rfl, _, rfl, ?_⟩
        refine ite2 (fun c3 => ?_) (fun c3 => ?_)
        · have c4 : (10 : Int) ^ (18 : Int).toNat ≤ z := of_decide_eq_true c3
          have c5 : (0 : Int) ≤ z := Int.le_trans (by decide) c4
          refine ⟨_, rfl, _, rfl, b, _, _, _, rfl, rfl, upd_same, rfl, ?_⟩
          refine k _ _ ⟨i + 1, z, s, _, rfl, by omega, c5, hs, hs2, (Apart.set _).trans (Apart.set _), upd_same, ?_⟩
          rw [upd_ne (ne_of h2 h1 bag_ne)]
          exact g2
        · refine ⟨_, rfl, b, _, _, _, rfl, rfl, g1, a3, _, _, rfl, rfl, .inr ⟨by decide, by decide⟩, _, rfl, _, _, rfl, rfl, (by show (0 : Int) < 2147483549; decide), _, _, rfl, rfl, .inr ⟨by decide, by decide⟩, _, _, rfl, rfl, _, _, rfl, rfl, _, _, rfl, rfl, (by show (0 : Int) < 2147483647; decide), ?_⟩
          refine ⟨_, rfl, b, _, _, _, rfl, rfl, upd_same, rfl, ?_⟩
          refine k _ _ ⟨i + 1, c, _, _, rfl, by omega, hc, Int.emod_nonneg _ (by decide), Int.emod_lt_of_pos _ (by decide), (Apart.set _).trans (Apart.set _), upd_same, ?_⟩
          rw [upd_ne (ne_of h2 h1 bag_ne)]
          exact g2
      · exact k _ _ ⟨i, c, s, _, rfl, hi, hc, hs, hs2, Apart.refl b H, h1, h2⟩
    · exact k _ _ ⟨i, c, s, _, rfl, hi, hc, hs, hs2, Apart.refl b H, h1, h2⟩
theorem Apart.seq {K : PySem.W.Frag} {b a : Addr} {H H' : Hp} {xs : List V} (e : Apart b H H') (n : a ≠ b) (h : SqL K H a xs) : SqL K H' a xs := by
  rcases h with (h | ⟨o, h⟩) | h
  · exact .inl (.inl (e _ _ n h))
  · exact .inl (.inr ⟨o, e _ _ n h⟩)
  · exact .inr h
theorem ok_of (T : Txt K mg A) : FnOk P w K mg base CX0 2 A.f_of A.fd_of ["_law_bag_here", "_law_some"] (spOf K) := by
  refine T.d_of.F.ok sc_of (fun vs H Q E h => ?_) (fun cdv ar outer s H vs Q E hr h => ?_)
  · obtain ⟨b, l, a, xs, rfl, _⟩ := h
    rfl
  obtain ⟨b, l, a, xs, rfl, hB, hS, hn, h0, h1, q⟩ := h
  refine ⟨_, (pss_one (ps_ret (pe_ix (r := rIx K) ix_seq (pv 1) (pe_call (ok_pull T) (hr.mono (by decide)) rfl T.d_pull.m T.d_pull.F.kp T.d_pull.b .nil pass0 (pa_cons (pv 0) (pa_cons (pe_callB (r := rLenK K) call_len_seq (by rfl) T.len (by decide +kernel) (pa_cons (pv 1) pa_nil)) pa_nil))) (fun _ _ => rfl)))), ?_⟩
  refine ⟨_, rfl, _, rfl, _, rfl, a, _, rfl, .inl hS, b, l, _, rfl, hB, by omega, Nat.lt_of_le_of_lt (show ((xs.length : Nat) : Int).natAbs ≤ 1000 by omega) (by decide), fun r H' r0 r1 ap bg => ?_⟩
  have hi : r.toNat < xs.length := by omega
  refine .inl ⟨a, _, _, _, rfl, rfl, ap.seq hn hS, at_of (j := r.toNat) (by omega) (List.getElem?_eq_getElem hi), ?_⟩
  exact q r.toNat _ H' (List.getElem?_eq_getElem hi) ap bg

/-! ### the comparison -/
/-- two flat values are one -/
def Flat : V → Prop
  | .non => True
  | .bl _ => True
  | .int _ => True
  | .str _ => True
  | _ => False
/-- x and y hold the same data, at most n lists one in another -/
def EqD (K : PySem.W.Frag) (H : Hp) : Nat → V → V → Prop
  | 0, x, y => x = y ∧ Flat x
  | n + 1, x, y => (x = y ∧ Flat x) ∨ (∃ (a b : Addr) (xs ys : List V), x = .ref a ∧ y = .ref b ∧ H a = some (.lst xs) ∧ H b = some (.lst ys) ∧ Paired (EqD K H n) xs ys ∧ xs.length ≤ 100000) ∨
    (∃ (a b : Addr) (xs ys : List V), x = .ref a ∧ y = .ref b ∧ H a = some (.tup xs) ∧ H b = some (.tup ys) ∧ Paired (EqD K H n) xs ys ∧ xs.length ≤ 100000)
theorem EqD.flat {K : PySem.W.Frag} {H : Hp} {x : V} (h : Flat x) : ∀ {n : Nat}, EqD K H n x x
  | 0 => ⟨rfl, h⟩
  | _ + 1 => .inl ⟨rfl, h⟩
theorem paired_imp {α β : Type} {R S : α → β → Prop} (f : ∀ a b, R a b → S a b) : ∀ {xs : List α} {ys : List β}, Paired R xs ys → Paired S xs ys
  | _, _, .nil => .nil
  | _, _, .cons h t => .cons (f _ _ h) (paired_imp f t)
theorem EqD.mono {K : PySem.W.Frag} {H H' : Hp} (e : Same H H') : ∀ {n : Nat} {x y : V}, EqD K H n x y → EqD K H' n x y
  | 0, _, _, h => h
  | n + 1, x, y, h => by
    rcases h with h | ⟨a, b, xs, ys, h1, h2, h3, h4, h5, h6⟩ | ⟨a, b, xs, ys, h1, h2, h3, h4, h5, h6⟩
    · exact .inl h
    · exact .inr (.inl ⟨a, b, xs, ys, h1, h2, e _ _ h3, e _ _ h4, paired_imp (fun _ _ z => EqD.mono e z) h5, h6⟩)
    · exact .inr (.inr ⟨a, b, xs, ys, h1, h2, e _ _ h3, e _ _ h4, paired_imp (fun _ _ z => EqD.mono e z) h5, h6⟩)
theorem paired_len {α β : Type} {R : α → β → Prop} : ∀ {xs : List α} {ys : List β}, Paired R xs ys → xs.length = ys.length
  | _, _, .nil => rfl
  | _, _, .cons _ t => congrArg (· + 1) (paired_len t)
theorem paired_at {α β : Type} {R : α → β → Prop} : ∀ {xs : List α} {ys : List β} {i : Nat} {y : β}, Paired R xs ys → ys[i]? = some y → ∃ x, xs[i]? = some x ∧ R x y
  | _, _, _, _, .nil, e => by cases e
  | x :: _, _, 0, _, .cons r _, e => by cases e; exact ⟨x, rfl, r⟩
  | _, _, i + 1, y, .cons _ t, e => by
    obtain ⟨x, h1, h2⟩ := paired_at (i := i) (y := y) t (by simpa using e)
    exact ⟨x, by simpa using h1, h2⟩
def spSame (K : PySem.W.Frag) (n : Nat) : Sp := fun vs H Q _ => ∃ (x y : V), vs = [x, y] ∧ EqD K H n x y ∧ ∀ (H' : Hp), Same H H' → Q (.bl true) H'
theorem kt_lt {t : String} {b : Bool} (h1 : kitB t "list" = some false) (h2 : kitB t "tuple" = some b) : PySem.W.kitAny K (.type t) [.type "list", .type "tuple"] = some b :=
  kitAny_cons (kit_ty h1) (fun _ => by
    cases b with
    | true => exact kitAny_cons (kit_ty h2) (fun z => nomatch z) (fun _ => rfl)
    | false => exact kitAny_cons (kit_ty h2) (fun _ => kitAny_nil) (fun z => nomatch z)) (fun z => nomatch z)
theorem kt_l : PySem.W.kitAny K (.type "list") [.type "list", .type "tuple"] = some true := kitAny_cons (b := true) (kit_ty (by decide +kernel)) (fun z => Bool.noConfusion z) (fun _ => rfl)
theorem kt_t : PySem.W.kitAny K (.type "tuple") [.type "list", .type "tuple"] = some true := kt_lt (by decide +kernel) (by decide +kernel)
theorem cls2 : Paired ClsV [V.ty "list", V.ty "tuple"] [Value.type "list", Value.type "tuple"] := .cons (.ty _) (.cons (.ty _) .nil)
theorem isi_flat {v : V} (h : Flat v) (hn : v ≠ .non) : ∃ (t : String) (a b c : Bool), (∀ H, TyX K H v (.type t)) ∧ kitB t "list" = some false ∧ kitB t "tuple" = some false ∧ kitB t "bool" = some a ∧ kitB t "int" = some b ∧ kitB t "str" = some c := by
  cases v with
  | non => exact absurd rfl hn
  | bl b => exact ⟨"bool", true, true, false, fun _ => .base (.bl b), by decide +kernel, by decide +kernel, by decide +kernel, by decide +kernel, by decide +kernel⟩
  | int i => exact ⟨"int", false, true, false, fun _ => .base (.int i), by decide +kernel, by decide +kernel, by decide +kernel, by decide +kernel, by decide +kernel⟩
  | str x => exact ⟨"str", false, false, true, fun _ => .base (.str x), by decide +kernel, by decide +kernel, by decide +kernel, by decide +kernel, by decide +kernel⟩
  | byt _ => exact h.elim
  | flt _ => exact h.elim
  | ref _ => exact h.elim
  | ty _ => exact h.elim
theorem scal_flat {v : V} (h : Flat v) : scal v v = true := by
  cases v <;> first | rfl | exact h.elim
theorem ne_bl (a : Bool) : (!decide (V.bl a = V.bl a)) = false := by rw [decide_eq_true rfl]; rfl
theorem ok_same_step (T : Txt K mg A) (n : Nat) (G : ∀ m, n = m + 1 → FnOk P w K mg base CX0 n A.f_same A.fd_same ["_law_found", "_law_due"] (spSame K m)) : FnOk P w K mg base CX0 (n + 1) A.f_same A.fd_same ["_law_found", "_law_due"] (spSame K n) := by
  refine T.d_same.F.ok sc_same (fun vs H Q E h => ?_) (fun cdv ar outer s H vs Q E hr h => ?_)
  · obtain ⟨x, y, rfl, _⟩ := h
    rfl
  obtain ⟨x, y, rfl, hE, q⟩ := h
  by_cases hf : Flat x ∧ x = y
  · obtain ⟨hf, rfl⟩ := hf
    have G : FnOk P w K mg base CX0 n A.f_same A.fd_same ["_law_found", "_law_due"] (fun _ _ _ _ => False) := ⟨fun _ _ _ _ h => h.elim, fun _ _ _ _ _ _ _ _ _ _ _ _ _ h => h.elim⟩
    refine ⟨_, (pss_cons (ps_if (PW.pt (pw_or (pt_cmpR op_isN (pv 1) pe_non (nomark _)) (pw_or1 (pt_cmpR op_isN (pv 0) pe_non (nomark _))))) (pss_one (ps_ret (pe_and (pe_cmpR op_isN (pv 0) pe_non (nomark _)) (pe_one (pe_cmpR op_isN (pv 1) pe_non (nomark _)))))) pss_nil)
    (pss_cons (ps_if (pt_val (pe_callB (r := rIsiT K) call_isiT (by rfl) T.isinstance (by decide +kernel) (pa_cons (pv 1) (pa_cons (pe_tup (pa_cons (pe_bltn (v := .ty "list") (u := .type "list") (by rfl) T.list (by decide +kernel) rfl) (pa_cons (pe_bltn (v := .ty "tuple") (u := .type "tuple") (by rfl) T.tuple (by decide +kernel) rfl) pa_nil))) pa_nil)))) (pss_cons (ps_if (PW.pt (pw_or (pt_cmpR op_ne (pe_callB (r := rIsi K) call_isi (by rfl) T.isinstance (by decide +kernel) (pa_cons (pv 0) (pa_cons (pe_bltn (v := .ty "list") (u := .type "list") (by rfl) T.list (by decide +kernel) rfl) pa_nil))) (pe_callB (r := rIsi K) call_isi (by rfl) T.isinstance (by decide +kernel) (pa_cons (pv 1) (pa_cons (pe_bltn (v := .ty "list") (u := .type "list") (by rfl) T.list (by decide +kernel) rfl) pa_nil))) (nomark _)) (pw_or1 (pt_cmpR op_ne (pe_callB (r := rIsi K) call_isi (by rfl) T.isinstance (by decide +kernel) (pa_cons (pv 0) (pa_cons (pe_bltn (v := .ty "tuple") (u := .type "tuple") (by rfl) T.tuple (by decide +kernel) rfl) pa_nil))) (pe_callB (r := rIsi K) call_isi (by rfl) T.isinstance (by decide +kernel) (pa_cons (pv 1) (pa_cons (pe_bltn (v := .ty "tuple") (u := .type "tuple") (by rfl) T.tuple (by decide +kernel) rfl) pa_nil))) (nomark _))))) (pss_one (ps_ret pe_bl)) pss_nil)
    (pss_one (ps_ret (pe_and (pe_cmpR op_eq (pe_callB (r := rLenK K) call_len_seq (by rfl) T.len (by decide +kernel) (pa_cons (pv 0) pa_nil)) (pe_callB (r := rLenK K) call_len_seq (by rfl) T.len (by decide +kernel) (pa_cons (pv 1) pa_nil)) (nomark _)) (pe_one (pe_callB (r := rAll K) (cr_all rfl) (by rfl) T.all (by decide +kernel) (pa_cons (pe_lc (own := [("_law_k", 2)]) (g := gName 2) (tt := tYes) rfl sc_same.nd (pi_range1 rfl T.range (pa_cons (pe_callB (r := rLenK K) call_len_seq (by rfl) T.len (by decide +kernel) (pa_cons (pv 1) pa_nil)) pa_nil)) (blkOk_by (own := [("_law_k", 2)]) (N := ["_law_found", "_law_due", "_law_k"]) (sc := defScope s_same) (by decide +kernel)) (fun _ _ _ _ _ => (pg_name (i := 2) sc_same.nd rfl (Or.inl rfl))) (fun _ _ _ _ _ => pts_nil) (fun _ _ _ _ _ => (pe_call G hr rfl T.d_same.m T.d_same.F.kp T.d_same.b .nil pass0 (pa_cons (pe_ix (r := rIx K) ix_seq (pv 0) (pv 2) (fun _ _ => rfl)) (pa_cons (pe_ix (r := rIx K) ix_seq (pv 1) (pv 2) (fun _ _ => rfl)) pa_nil))))) pa_nil))))))) pss_nil)
    (pss_cons (ps_if (PW.pt (pw_or (pt_cmpR op_ne (pe_callB (r := rIsi K) call_isi (by rfl) T.isinstance (by decide +kernel) (pa_cons (pv 1) (pa_cons (pe_bltn (v := .ty "bool") (u := .type "bool") (by rfl) T.bool (by decide +kernel) rfl) pa_nil))) (pe_callB (r := rIsi K) call_isi (by rfl) T.isinstance (by decide +kernel) (pa_cons (pv 0) (pa_cons (pe_bltn (v := .ty "bool") (u := .type "bool") (by rfl) T.bool (by decide +kernel) rfl) pa_nil))) (nomark _)) (pw_or1 (pt_cmpR op_ne (pe_callB (r := rIsi K) call_isi (by rfl) T.isinstance (by decide +kernel) (pa_cons (pv 1) (pa_cons (pe_bltn (v := .ty "int") (u := .type "int") (by rfl) T.int (by decide +kernel) rfl) pa_nil))) (pe_callB (r := rIsi K) call_isi (by rfl) T.isinstance (by decide +kernel) (pa_cons (pv 0) (pa_cons (pe_bltn (v := .ty "int") (u := .type "int") (by rfl) T.int (by decide +kernel) rfl) pa_nil))) (nomark _))))) (pss_one (ps_ret pe_bl)) pss_nil)
    (pss_one (ps_ret (pe_and (pe_cmpR op_eq (pe_callB (r := rIsi K) call_isi (by rfl) T.isinstance (by decide +kernel) (pa_cons (pv 1) (pa_cons (pe_bltn (v := .ty "str") (u := .type "str") (by rfl) T.str (by decide +kernel) rfl) pa_nil))) (pe_callB (r := rIsi K) call_isi (by rfl) T.isinstance (by decide +kernel) (pa_cons (pv 0) (pa_cons (pe_bltn (v := .ty "str") (u := .type "str") (by rfl) T.str (by decide +kernel) rfl) pa_nil))) (nomark _)) (pe_one (pe_cmpR op_eq (pv 0) (pv 1) (nomark _))))))))), ?_⟩
    by_cases hn : x = .non
    · subst hn
      refine ⟨_, rfl, rfl, _, rfl, iteT (iteT ?_)⟩
      refine ⟨_, rfl, rfl, _, rfl, iteT ⟨_, rfl, rfl, ?_⟩⟩
      exact q _ (Same.refl H)
    · have d0 : decide (x = V.non) = false := decide_eq_false hn
      refine ⟨_, rfl, rfl, _, rfl, ?_⟩
      rw [d0]
      refine iteF ⟨_, rfl, rfl, _, rfl, ?_⟩
      rw [d0]
      refine iteF ?_
      obtain ⟨t, a, b, c, ty, k1, k2, k3, k4, k5⟩ := isi_flat (K := K) hf hn
      refine ⟨_, rfl, sl_small (by decide), fun p hp => ⟨_, p, _, _, _, false, rfl, upd_same, cls2, ty _, kt_lt k1 k2, _, rfl, iteF ?_⟩⟩
      refine ⟨_, rfl, _, _, _, _, _, rfl, .ty _, ty _, kit_ty k3, _, rfl, _, _, _, _, _, rfl, .ty _, ty _, kit_ty k3, rfl, _, rfl, ?_⟩
      rw [ne_bl]
      refine iteF ⟨_, rfl, _, _, _, _, _, rfl, .ty _, ty _, kit_ty k4, _, rfl, _, _, _, _, _, rfl, .ty _, ty _, kit_ty k4, rfl, _, rfl, ?_⟩
      rw [ne_bl]
      refine iteF ⟨_, rfl, _, _, _, _, _, rfl, .ty _, ty _, kit_ty k5, _, rfl, _, _, _, _, _, rfl, .ty _, ty _, kit_ty k5, rfl, _, rfl, ?_⟩
      rw [decide_eq_true rfl]
      refine iteT ⟨_, rfl, _, rfl, scal_flat hf, ?_⟩
      rw [decide_eq_true rfl]
      exact q _ (Same.new hp _)
  · -- two lists, or two tuples
    obtain ⟨m, rfl, b1, a, b, xs, ys, T1, rfl, rfl, hP, hl⟩ : ∃ (m : Nat), n = m + 1 ∧ ∃ (tl : Bool) (a b : Addr) (xs ys : List V) (_ : H a = some (if tl then HO.lst xs else HO.tup xs) ∧ H b = some (if tl then HO.lst ys else HO.tup ys)), x = .ref a ∧ y = .ref b ∧ Paired (EqD K H m) xs ys ∧ xs.length ≤ 100000 := by
      cases n with
      | zero => exact absurd ⟨hE.2, hE.1⟩ hf
      | succ m =>
        rcases hE with h | ⟨a, b, xs, ys, h1, h2, h3, h4, h5, h6⟩ | ⟨a, b, xs, ys, h1, h2, h3, h4, h5, h6⟩
        · exact absurd ⟨h.2, h.1⟩ hf
        · exact ⟨m, rfl, true, a, b, xs, ys, ⟨h3, h4⟩, h1, h2, h5, h6⟩
        · exact ⟨m, rfl, false, a, b, xs, ys, ⟨h3, h4⟩, h1, h2, h5, h6⟩
    obtain ⟨ha, hb⟩ := T1
    have G := G m rfl
    have hlen := paired_len hP
    have seq : ∀ {H' : Hp} {a : Addr} {xs : List V}, H' a = some (if b1 then HO.lst xs else HO.tup xs) → SqL K H' a xs ∨ SqT K H' a xs := fun {H' a xs} h => by
      cases b1 with
      | true => exact .inl (SqL.of h)
      | false => exact .inr (SqT.of h)
    have ixs : ∀ {H' : Hp} {a : Addr} {xs : List V} {i : Nat} {v : V} {Q : VK}, H' a = some (if b1 then HO.lst xs else HO.tup xs) → xs[i]? = some v → Q v H' → rIx K (.ref a) (.int (0 + (i : Int))) H' Q := fun {H' a xs i v Q} h e k => by
      cases b1 with
      | true => exact .inl ⟨a, _, _, _, rfl, rfl, SqL.of h, at_of (j := i) (by omega) e, k⟩
      | false => exact .inr (.inl ⟨a, _, _, _, rfl, rfl, SqT.of h, at_of (j := i) (by omega) e, k⟩)
    obtain ⟨t, ty, k1, k2, k3⟩ : ∃ t : String, (∀ (H' : Hp) (a : Addr) (xs : List V), H' a = some (if b1 then HO.lst xs else HO.tup xs) → TyX K H' (.ref a) (.type t)) ∧ PySem.W.kitAny K (.type t) [.type "list", .type "tuple"] = some true ∧ (∃ c, kitB t "list" = some c) ∧ (∃ c, kitB t "tuple" = some c) := by
      cases b1 with
      | true => exact ⟨"list", fun _ _ _ h => .base (.lst h), kt_l, ⟨true, by decide +kernel⟩, ⟨false, by decide +kernel⟩⟩
      | false => exact ⟨"tuple", fun _ _ _ h => .base (.tup h), kt_t, ⟨false, by decide +kernel⟩, ⟨true, by decide +kernel⟩⟩
    obtain ⟨⟨c1, k2⟩, ⟨c2, k3⟩⟩ := And.intro k2 k3
    refine ⟨_, (pss_cons (ps_if (PW.pt (pw_or (pt_cmpR op_isN (pv 1) pe_non (nomark _)) (pw_or1 (pt_cmpR op_isN (pv 0) pe_non (nomark _))))) (pss_one (ps_ret (pe_and (pe_cmpR op_isN (pv 0) pe_non (nomark _)) (pe_one (pe_cmpR op_isN (pv 1) pe_non (nomark _)))))) pss_nil)
    (pss_cons (ps_if (pt_val (pe_callB (r := rIsiT K) call_isiT (by rfl) T.isinstance (by decide +kernel) (pa_cons (pv 1) (pa_cons (pe_tup (pa_cons (pe_bltn (v := .ty "list") (u := .type "list") (by rfl) T.list (by decide +kernel) rfl) (pa_cons (pe_bltn (v := .ty "tuple") (u := .type "tuple") (by rfl) T.tuple (by decide +kernel) rfl) pa_nil))) pa_nil)))) (pss_cons (ps_if (PW.pt (pw_or (pt_cmpR op_ne (pe_callB (r := rIsi K) call_isi (by rfl) T.isinstance (by decide +kernel) (pa_cons (pv 0) (pa_cons (pe_bltn (v := .ty "list") (u := .type "list") (by rfl) T.list (by decide +kernel) rfl) pa_nil))) (pe_callB (r := rIsi K) call_isi (by rfl) T.isinstance (by decide +kernel) (pa_cons (pv 1) (pa_cons (pe_bltn (v := .ty "list") (u := .type "list") (by rfl) T.list (by decide +kernel) rfl) pa_nil))) (nomark _)) (pw_or1 (pt_cmpR op_ne (pe_callB (r := rIsi K) call_isi (by rfl) T.isinstance (by decide +kernel) (pa_cons (pv 0) (pa_cons (pe_bltn (v := .ty "tuple") (u := .type "tuple") (by rfl) T.tuple (by decide +kernel) rfl) pa_nil))) (pe_callB (r := rIsi K) call_isi (by rfl) T.isinstance (by decide +kernel) (pa_cons (pv 1) (pa_cons (pe_bltn (v := .ty "tuple") (u := .type "tuple") (by rfl) T.tuple (by decide +kernel) rfl) pa_nil))) (nomark _))))) (pss_one (ps_ret pe_bl)) pss_nil)
    (pss_one (ps_ret (pe_and (pe_cmpR op_eq (pe_callB (r := rLenK K) call_len_seq (by rfl) T.len (by decide +kernel) (pa_cons (pv 0) pa_nil)) (pe_callB (r := rLenK K) call_len_seq (by rfl) T.len (by decide +kernel) (pa_cons (pv 1) pa_nil)) (nomark _)) (pe_one (pe_callB (r := rAll K) (cr_all rfl) (by rfl) T.all (by decide +kernel) (pa_cons (pe_lc (own := [("_law_k", 2)]) (g := gName 2) (tt := tYes) rfl sc_same.nd (pi_range1 rfl T.range (pa_cons (pe_callB (r := rLenK K) call_len_seq (by rfl) T.len (by decide +kernel) (pa_cons (pv 1) pa_nil)) pa_nil)) (blkOk_by (own := [("_law_k", 2)]) (N := ["_law_found", "_law_due", "_law_k"]) (sc := defScope s_same) (by decide +kernel)) (fun _ _ _ _ _ => (pg_name (i := 2) sc_same.nd rfl (Or.inl rfl))) (fun _ _ _ _ _ => pts_nil) (fun _ _ _ _ _ => (pe_call G hr rfl T.d_same.m T.d_same.F.kp T.d_same.b .nil pass0 (pa_cons (pe_ix (r := rIx K) ix_seq (pv 0) (pv 2) (fun _ _ => rfl)) (pa_cons (pe_ix (r := rIx K) ix_seq (pv 1) (pv 2) (fun _ _ => rfl)) pa_nil))))) pa_nil))))))) pss_nil)
    (pss_cons (ps_if (PW.pt (pw_or (pt_cmpR op_ne (pe_callB (r := rIsi K) call_isi (by rfl) T.isinstance (by decide +kernel) (pa_cons (pv 1) (pa_cons (pe_bltn (v := .ty "bool") (u := .type "bool") (by rfl) T.bool (by decide +kernel) rfl) pa_nil))) (pe_callB (r := rIsi K) call_isi (by rfl) T.isinstance (by decide +kernel) (pa_cons (pv 0) (pa_cons (pe_bltn (v := .ty "bool") (u := .type "bool") (by rfl) T.bool (by decide +kernel) rfl) pa_nil))) (nomark _)) (pw_or1 (pt_cmpR op_ne (pe_callB (r := rIsi K) call_isi (by rfl) T.isinstance (by decide +kernel) (pa_cons (pv 1) (pa_cons (pe_bltn (v := .ty "int") (u := .type "int") (by rfl) T.int (by decide +kernel) rfl) pa_nil))) (pe_callB (r := rIsi K) call_isi (by rfl) T.isinstance (by decide +kernel) (pa_cons (pv 0) (pa_cons (pe_bltn (v := .ty "int") (u := .type "int") (by rfl) T.int (by decide +kernel) rfl) pa_nil))) (nomark _))))) (pss_one (ps_ret pe_bl)) pss_nil)
    (pss_one (ps_ret (pe_and (pe_cmpR op_eq (pe_callB (r := rIsi K) call_isi (by rfl) T.isinstance (by decide +kernel) (pa_cons (pv 1) (pa_cons (pe_bltn (v := .ty "str") (u := .type "str") (by rfl) T.str (by decide +kernel) rfl) pa_nil))) (pe_callB (r := rIsi K) call_isi (by rfl) T.isinstance (by decide +kernel) (pa_cons (pv 0) (pa_cons (pe_bltn (v := .ty "str") (u := .type "str") (by rfl) T.str (by decide +kernel) rfl) pa_nil))) (nomark _)) (pe_one (pe_cmpR op_eq (pv 0) (pv 1) (nomark _))))))))), ?_⟩
    refine ⟨_, rfl, rfl, _, rfl, iteF ?_⟩
    refine ⟨_, rfl, rfl, _, rfl, iteF ?_⟩
    refine ⟨_, rfl, sl_small (by decide), fun p hp => ?_⟩
    have s1 : Same H (upd H p (.tup [V.ty "list", V.ty "tuple"])) := Same.new hp _
    refine ⟨_, p, _, _, _, true, rfl, upd_same, cls2, ty _ _ _ (s1 _ _ hb), k1, _, rfl, iteT ?_⟩
    refine ⟨_, rfl, _, _, _, _, _, rfl, .ty _, ty _ _ _ (s1 _ _ ha), kit_ty k2, _, rfl, _, _, _, _, _, rfl, .ty _, ty _ _ _ (s1 _ _ hb), kit_ty k2, rfl, _, rfl, ?_⟩
    rw [ne_bl]
    refine iteF ⟨_, rfl, _, _, _, _, _, rfl, .ty _, ty _ _ _ (s1 _ _ ha), kit_ty k3, _, rfl, _, _, _, _, _, rfl, .ty _, ty _ _ _ (s1 _ _ hb), kit_ty k3, rfl, _, rfl, ?_⟩
    rw [ne_bl]
    refine iteF ⟨_, rfl, a, _, rfl, seq (s1 _ _ ha), _, rfl, b, _, rfl, seq (s1 _ _ hb), rfl, _, rfl, ?_⟩
    rw [hlen, decide_eq_true rfl]
    refine iteT ⟨_, rfl, b, _, rfl, seq (s1 _ _ hb), _, rfl, by omega, by omega, fun D hD => ?_⟩
    have s2 := s1.set (s1.free hD)
    refine lc_range (lo := 0) (n := ((ys.length : Nat) : Int).toNat) (fun i H' => Same H H' ∧ H' D = some (.lst (List.replicate i (V.bl true)))) ⟨s2 _, upd_same⟩ ?_ ?_
    · rintro i H' hi ⟨s3, hD'⟩
      have hi : i < ys.length := by omega
      obtain ⟨v, hv, he⟩ := paired_at hP (List.getElem?_eq_getElem hi)
      refine ⟨rfl, ?_⟩
      refine ⟨_, rfl, _, rfl, ixs (s3 _ _ ha) hv ⟨_, rfl, _, rfl, ixs (s3 _ _ hb) (List.getElem?_eq_getElem hi) ?_⟩⟩
      refine ⟨_, _, rfl, he.mono s3, fun H2 s4 => ?_⟩
      refine ⟨_, s4 _ _ hD', by rw [List.length_replicate]; exact sl_lt (by omega), (s3.trans s4).set (s1.free hD) _, ?_⟩
      rw [upd_same, List.replicate_succ']
    · rintro H' ⟨s3, hD'⟩
      refine ⟨D, List.replicate ys.length true, rfl, SqL.of (by rw [hD', List.map_replicate]; rfl), ?_⟩
      have e : (List.replicate ys.length true).all id = true := by
        rw [List.all_replicate]
        cases ys.length <;> rfl
      rw [e]
      exact q _ s3
theorem ok_same_at (T : Txt K mg A) : ∀ n : Nat, FnOk P w K mg base CX0 (n + 1) A.f_same A.fd_same ["_law_found", "_law_due"] (spSame K n)
  | 0 => ok_same_step T 0 fun m e => nomatch e
  | n + 1 => ok_same_step T (n + 1) fun m e => by
    have e2 : m = n := by omega
    subst e2
    exact ok_same_at T m
/-- data of at most nine levels -/
theorem ok_same (T : Txt K mg A) : FnOk P w K mg base CX0 10 A.f_same A.fd_same ["_law_found", "_law_due"] (spSame K 9) := ok_same_at T 9
end

/-! ## Fractions in the heap -/
open RM in
/-- the tuple of a fraction -/
def FR (x : Rat) : List V := [.int x.num, .int ((x.den : Nat) : Int)]
/-- a new tuple, all else as it was -/
def NewT (H : Hp) (Q : VK) (xs : List V) : Prop := ∀ (p : Addr) (H' : Hp), Same H H' → H p = none → H' p = some (.tup xs) → Q (.ref p) H'
theorem NewT.lay {H H1 : Hp} {Q : VK} {xs : List V} {p : Addr} (q : NewT H Q xs) (e : Same H H1) (h : H1 p = none) : Q (.ref p) (upd H1 p (.tup xs)) := q p _ (e.set (e.free h) _) (e.free h) upd_same
theorem fr_of {x : Rat} {n d : Int} (h1 : n = x.num) (h2 : d = ((x.den : Nat) : Int)) : ([.int n, .int d] : List V) = FR x := by
  rw [h1, h2]; rfl
theorem w_mul {i j : Int} {a b : Nat} (ha : i.natAbs < 2 ^ a) (hb : j.natAbs < 2 ^ b) (h : a + b + 2 ≤ 1000000) : CMulW i j :=
  wide_mul (a := a + 1) (b := b + 1) (Nat.lt_of_lt_of_le ha (RM.pow_le (by omega))) (Nat.lt_of_lt_of_le hb (RM.pow_le (by omega))) (by omega) (by omega) (by omega)
theorem w_div {i j : Int} {b : Nat} (h : 0 < j) (hb : j.natAbs < 2 ^ b) (h9 : b ≤ 8999) : CDivW i j :=
  wide_div h (Nat.lt_of_lt_of_le hb (RM.pow_le (show b ≤ b + 1 by omega))) (by omega) (by omega)
def rIxTV (H : Hp) (p : Addr) (xs : List V) (i : Nat) (v : V) : Prop := H p = some (.tup xs) ∧ xs[i]? = some v
def spGcd : Sp := fun vs H Q _ => ∃ (a b : Int), vs = [.int a, .int b] ∧ 0 ≤ b ∧ Q (.int ((Int.gcd a b : Nat) : Int)) H
def spLow : Sp := fun vs H Q _ => ∃ (a b : Int), vs = [.int a, .int b] ∧ 0 < b ∧ b.natAbs < 2 ^ 8000 ∧ NewT H Q (FR (Rat.divInt a b))
section
variable {P : Program} {w : World} {K : PySem.W.Frag} {mg : Str → Option Value} {base : Heap} {A : Ad}
theorem abs_is (i : Int) : (if i < 0 then -i else i) = ((i.natAbs : Nat) : Int) := by
  split <;> omega
theorem gcd_zero' (i : Int) : ((i.natAbs : Nat) : Int) = ((Int.gcd i 0 : Nat) : Int) := by rw [Int.gcd_zero]
theorem ok_gcd (T : Txt K mg A) : FnOk P w K mg base CX0 1 A.f_gcd A.fd_gcd ["_law_a", "_law_b"] spGcd := by
  refine T.d_gcd.F.ok sc_gcd (fun vs H Q E h => ?_) (fun cdv ar outer s H vs Q E hr h => ?_)
  · obtain ⟨a, b, rfl, _⟩ := h
    rfl
  obtain ⟨a, b, rfl, hb, q⟩ := h
  refine ⟨_, (pss_cons (ps_while PassesOwn.never (pt_cmpR op_ne (pv 1) pe_int (nomark _)) (pss_one (ps_par (i := 0) (j := 1) (by rfl) sc_gcd.nd rfl rfl (by decide) rfl rfl (pa_cons (pv 1) (pa_cons (pe_op op_mod (pv 0) (pv 1)) pa_nil)) (by rfl))))
    (pss_one (ps_ret (pe_callB call_abs (by rfl) T.abs (by decide +kernel) (pa_cons (pv 0) pa_nil))))), ?_⟩
  refine while_by (fun σ H' => H' = H ∧ ∃ x y : Int, σ = [some (.int x), some (.int y)] ∧ 0 ≤ y ∧ Int.gcd x y = Int.gcd a b) (fun σ _ => match σ with | [_, some (.int y)] => y.toNat | _ => 0) ⟨rfl, a, b, rfl, hb, rfl⟩ ?_ (fun σ H Q Q' m ⟨v, e, h1, k, e2, q⟩ => ⟨v, e, h1, k, e2, m _ _ q⟩)
  rintro σ _ ⟨rfl, x, y, rfl, hy, hg⟩
  refine ⟨_, rfl, rfl, _, rfl, ?_⟩
  by_cases h0 : y = 0
  · subst h0
    rw [decide_eq_true rfl]
    refine iteF ⟨_, rfl, _, rfl, ?_⟩
    rw [abs_is, gcd_zero', hg]
    exact q
  · have d0 : decide (V.int y = V.int 0) = false := decide_eq_false fun z => h0 (by injection z)
    rw [d0]
    refine iteT ⟨_, rfl, _, rfl, _, rfl, _, _, rfl, rfl, (by show 0 < y; omega), _, _, rfl, ?_⟩
    have hm := Int.emod_nonneg x h0
    have hl := Int.emod_lt_of_pos x (show 0 < y by omega)
    refine ⟨⟨rfl, y, x % y, rfl, hm, by rw [RM.gcd_step]; exact hg⟩, ?_⟩
    show (x % y).toNat < y.toNat
    omega
theorem ok_low (T : Txt K mg A) : FnOk P w K mg base CX0 2 A.f_low A.fd_low ["_law_a", "_law_b"] spLow := by
  refine T.d_low.F.ok sc_low (fun vs H Q E h => ?_) (fun cdv ar outer s H vs Q E hr h => ?_)
  · obtain ⟨a, b, rfl, _⟩ := h
    rfl
  obtain ⟨a, b, rfl, hb, hz, q⟩ := h
  have g0 : 0 < ((Int.gcd a b : Nat) : Int) := RM.gcd_posi (by omega)
  have g1 : ((Int.gcd a b : Nat) : Int).natAbs < 2 ^ 8000 := by
    refine Nat.lt_of_le_of_lt ?_ hz
    rw [RM.nat_abs]
    exact Nat.le_of_dvd (by omega) (Int.gcd_dvd_natAbs_right ..)
  refine ⟨_, (pss_cons (ps_set (i := 2) sc_low.nd rfl (Or.inl rfl) (pe_call (ok_gcd T) (hr.mono (by decide)) rfl T.d_gcd.m T.d_gcd.F.kp T.d_gcd.b .nil pass0 (pa_cons (pv 0) (pa_cons (pv 1) pa_nil))))
    (pss_one (ps_ret (pe_tup (pa_cons (pe_op op_fdivW (pv 0) (pv 2)) (pa_cons (pe_op op_fdivW (pv 1) (pv 2)) pa_nil)))))), ?_⟩
  refine ⟨_, rfl, _, rfl, a, b, rfl, by omega, ?_⟩
  refine ⟨_, rfl, _, rfl, _, _, rfl, rfl, w_div g0 g1 (by decide), _, rfl, _, rfl, _, _, rfl, rfl, w_div g0 g1 (by decide), slr rfl, fun p hp => ?_⟩
  show Q (.ref p) (upd H p (.tup [.int (a / ((Int.gcd a b : Nat) : Int)), .int (b / ((Int.gcd a b : Nat) : Int))]))
  rw [← RM.num_pos hb, ← RM.den_pos hb]
  exact q.lay (Same.refl H) hp
end

/-! ## What stays -/
theorem ix0 {x : Rat} : atI (FR x) 0 = some (.int x.num) := at_of (j := 0) rfl rfl
theorem ix1 {x : Rat} : atI (FR x) 1 = some (.int ((x.den : Nat) : Int)) := at_of (j := 1) rfl rfl
/-- a fraction stands at v -/
def IsR (H : Hp) (v : V) (x : Rat) : Prop := ∃ p, v = .ref p ∧ H p = some (.tup (FR x))
theorem IsR.mono {H H' : Hp} {v : V} {x : Rat} (h : IsR H v x) (e : Same H H') : IsR H' v x := by
  obtain ⟨p, h1, h2⟩ := h
  exact ⟨p, h1, e _ _ h2⟩
def RL (H : Hp) (vs : List V) (qs : List Rat) : Prop := Paired (IsR H) vs qs
theorem RL.mono {H H' : Hp} {vs : List V} {qs : List Rat} (h : RL H vs qs) (e : Same H H') : RL H' vs qs := paired_imp (fun _ _ z => z.mono e) h
theorem paired_at1 {α β : Type} {R : α → β → Prop} : ∀ {xs : List α} {ys : List β} {i : Nat} {x : α}, Paired R xs ys → xs[i]? = some x → ∃ y, ys[i]? = some y ∧ R x y
  | _, _, _, _, .nil, e => by cases e
  | _, y :: _, 0, _, .cons r _, e => by cases e; exact ⟨y, rfl, r⟩
  | _, _, i + 1, x, .cons _ t, e => by
    obtain ⟨y, h1, h2⟩ := paired_at1 (i := i) (x := x) t (by simpa using e)
    exact ⟨y, by simpa using h1, h2⟩
/-- tuples stay -/
def KeepT (H H' : Hp) : Prop := ∀ p xs, H p = some (.tup xs) → H' p = some (.tup xs)
theorem _root_.L2.Same.kt {H H' : Hp} (e : Same H H') : KeepT H H' := fun p xs h => e p _ h
theorem Apart.kt {b : Addr} {H H' : Hp} (e : Apart b H H') {l : Addr} (B : Bag H b l) : KeepT H H' := fun p xs h => e p _ (B.nt h) h
theorem KeepT.trans {H H1 H2 : Hp} (x : KeepT H H1) (y : KeepT H1 H2) : KeepT H H2 := fun p xs h => y p xs (x p xs h)
theorem KeepT.refl (H : Hp) : KeepT H H := fun _ _ h => h
theorem kt_list {H : Hp} {D : Addr} {xs : List V} {o : HO} (h : H D = some (.lst xs)) : KeepT H (upd H D o) := fun p ys e => by
  rw [upd_ne (ne_of e h (fun z => nomatch z))]
  exact e
theorem IsR.keep {H H' : Hp} {v : V} {x : Rat} (h : IsR H v x) (e : KeepT H H') : IsR H' v x := by
  obtain ⟨p, h1, h2⟩ := h
  exact ⟨p, h1, e _ _ h2⟩
theorem RL.keep {H H' : Hp} {vs : List V} {qs : List Rat} (h : RL H vs qs) (e : KeepT H H') : RL H' vs qs := paired_imp (fun _ _ z => z.keep e) h
theorem paired_snoc {α β : Type} {R : α → β → Prop} {x : α} {y : β} (r : R x y) : ∀ {xs : List α} {ys : List β}, Paired R xs ys → Paired R (xs ++ [x]) (ys ++ [y])
  | _, _, .nil => .cons r .nil
  | _, _, .cons h t => .cons h (paired_snoc r t)

/-! ## Statements as data -/
inductive Stm where
  | cut (piece : Str) (player : Int) (share : Rat) (first second : Str)
  | trim (piece like : Str) (player : Int) (first second : Str)
  | pick (player : Int) (which : Str) (pieces names : List Str)
  | join (pieces : List Str) (name : Str)
  | give (piece : Str) (player : Int)
  | drop (piece : Str)
  | ask (player : Int) (piece : Str) (share : Rat) (like : Str) (yes no : List Stm)
/-- a tuple of texts -/
def IsTT (H : Hp) (v : V) (xs : List Str) : Prop := ∃ p, v = .ref p ∧ H p = some (.tup (xs.map V.str))
mutual
def IsS (H : Hp) : Stm → V → Prop
  | .cut a n q x y, v => ∃ t s, v = .ref t ∧ H t = some (.tup [.str "cut", .str a, .int n, s, .str x, .str y]) ∧ IsR H s q
  | .trim a b n x y, v => ∃ t, v = .ref t ∧ H t = some (.tup [.str "trim", .str a, .str b, .int n, .str x, .str y])
  | .pick n w ps ns, v => ∃ t s u, v = .ref t ∧ H t = some (.tup [.str "pick", .int n, .str w, s, u]) ∧ IsTT H s ps ∧ IsTT H u ns
  | .join ps x, v => ∃ t s, v = .ref t ∧ H t = some (.tup [.str "join", s, .str x]) ∧ IsTT H s ps
  | .give a n, v => ∃ t, v = .ref t ∧ H t = some (.tup [.str "give", .str a, .int n])
  | .drop a, v => ∃ t, v = .ref t ∧ H t = some (.tup [.str "drop", .str a])
  | .ask n a q b yes no, v => ∃ t s y z, v = .ref t ∧ H t = some (.tup [.str "ask", .int n, .str a, s, .str b, .ref y, .ref z]) ∧ IsR H s q ∧ (∃ vs, H y = some (.tup vs) ∧ IsAll H yes vs) ∧ (∃ vs, H z = some (.tup vs) ∧ IsAll H no vs)
def IsAll (H : Hp) : List Stm → List V → Prop
  | [], vs => vs = []
  | s :: r, vs => ∃ v ws, vs = v :: ws ∧ IsS H s v ∧ IsAll H r ws
end
/-- a tuple of statements -/
def IsLs (H : Hp) (ss : List Stm) (t : Addr) : Prop := ∃ vs, H t = some (.tup vs) ∧ IsAll H ss vs
theorem IsTT.keep {H H' : Hp} {v : V} {xs : List Str} (h : IsTT H v xs) (e : KeepT H H') : IsTT H' v xs := by
  obtain ⟨p, h1, h2⟩ := h
  exact ⟨p, h1, e _ _ h2⟩
mutual
theorem IsS.keep {H H' : Hp} (e : KeepT H H') : ∀ {s : Stm} {v : V}, IsS H s v → IsS H' s v
  | .cut .., _, ⟨t, s, h1, h2, h3⟩ => ⟨t, s, h1, e _ _ h2, h3.keep e⟩
  | .trim .., _, ⟨t, h1, h2⟩ => ⟨t, h1, e _ _ h2⟩
  | .pick .., _, ⟨t, s, u, h1, h2, h3, h4⟩ => ⟨t, s, u, h1, e _ _ h2, h3.keep e, h4.keep e⟩
  | .join .., _, ⟨t, s, h1, h2, h3⟩ => ⟨t, s, h1, e _ _ h2, h3.keep e⟩
  | .give .., _, ⟨t, h1, h2⟩ => ⟨t, h1, e _ _ h2⟩
  | .drop .., _, ⟨t, h1, h2⟩ => ⟨t, h1, e _ _ h2⟩
  | .ask .., _, ⟨t, s, y, z, h1, h2, h3, ⟨vs, h4, h5⟩, ⟨us, h6, h7⟩⟩ => ⟨t, s, y, z, h1, e _ _ h2, h3.keep e, ⟨vs, e _ _ h4, IsAll.keep e h5⟩, ⟨us, e _ _ h6, IsAll.keep e h7⟩⟩
theorem IsAll.keep {H H' : Hp} (e : KeepT H H') : ∀ {ss : List Stm} {vs : List V}, IsAll H ss vs → IsAll H' ss vs
  | [], _, h => h
  | _ :: _, _, ⟨v, ws, h1, h2, h3⟩ => ⟨v, ws, h1, IsS.keep e h2, IsAll.keep e h3⟩
end
theorem IsLs.keep {H H' : Hp} {ss : List Stm} {t : Addr} (h : IsLs H ss t) (e : KeepT H H') : IsLs H' ss t := by
  obtain ⟨vs, h1, h2⟩ := h
  exact ⟨vs, e _ _ h1, h2.keep e⟩
theorem IsAll.app {H : Hp} : ∀ {ss : List Stm} {vs : List V} {rs : List Stm} {ws : List V}, IsAll H ss vs → IsAll H rs ws → IsAll H (ss ++ rs) (vs ++ ws)
  | [], _, _, _, h, g => by cases h; exact g
  | _ :: _, _, _, _, ⟨v, us, h1, h2, h3⟩, g => ⟨v, us ++ _, by rw [h1]; rfl, h2, IsAll.app h3 g⟩
theorem IsAll.len {H : Hp} : ∀ {ss : List Stm} {vs : List V}, IsAll H ss vs → ss.length = vs.length
  | [], _, h => by cases h; rfl
  | _ :: _, _, ⟨v, us, h1, h2, h3⟩ => by rw [h1]; exact congrArg (· + 1) h3.len
theorem IsAll.at {H : Hp} : ∀ {ss : List Stm} {vs : List V} {i : Nat} {v : V}, IsAll H ss vs → vs[i]? = some v → ∃ s, ss[i]? = some s ∧ IsS H s v
  | [], _, _, _, h, e => by cases h; cases e
  | s :: _, _, 0, _, ⟨u, us, h1, h2, h3⟩, e => by rw [h1] at e; cases e; exact ⟨s, rfl, h2⟩
  | _ :: _, _, i + 1, _, ⟨u, us, h1, h2, h3⟩, e => by
    rw [h1] at e
    obtain ⟨s, e1, e2⟩ := IsAll.at (i := i) h3 (by simpa using e)
    exact ⟨s, by simpa using e1, e2⟩
theorem IsAll.takeN {H : Hp} : ∀ {ss : List Stm} {vs : List V} (n : Nat), IsAll H ss vs → IsAll H (ss.take n) (vs.take n)
  | [], _, _, h => by cases h; simp [IsAll]
  | _ :: _, _, 0, _ => by simp [IsAll]
  | _ :: _, _, n + 1, ⟨u, us, h1, h2, h3⟩ => ⟨u, us.take n, by rw [h1]; rfl, h2, IsAll.takeN n h3⟩
/-! ### ways through them, their depth, a bound for the bits -/
mutual
def wayS : Stm → Nat
  | .trim .. => 2
  | .pick _ _ ps _ => ps.length
  | .ask _ _ _ _ y n => ways y + ways n
  | _ => 1
def ways : List Stm → Nat
  | [] => 1
  | s :: r => wayS s * ways r
end
mutual
def depS : Stm → Nat
  | .ask _ _ _ _ y n => 1 + max (depL y) (depL n)
  | _ => 0
def depL : List Stm → Nat
  | [] => 0
  | s :: r => max (depS s) (depL r)
end
mutual
def wtS : Stm → Nat
  | .trim .. => 1
  | .pick _ _ ps _ => ps.length
  | .ask _ _ _ _ y n => wtL y + wtL n + 1
  | _ => 0
def wtL : List Stm → Nat
  | [] => 0
  | s :: r => wtS s + wtL r
end
mutual
theorem wayS_le : ∀ s : Stm, wayS s ≤ 2 ^ wtS s
  | .cut .. => by simp [wayS, wtS]
  | .trim .. => by simp [wayS, wtS]
  | .pick _ _ ps _ => by
    simp only [wayS, wtS]
    exact Nat.le_of_lt Nat.lt_two_pow_self
  | .join .. => by simp [wayS, wtS]
  | .give .. => by simp [wayS, wtS]
  | .drop .. => by simp [wayS, wtS]
  | .ask _ _ _ _ y n => by
    simp only [wayS, wtS]
    have h1 := ways_le y
    have h2 := ways_le n
    have h3 : 2 ^ wtL y ≤ 2 ^ (wtL y + wtL n) := Nat.pow_le_pow_right (by decide) (by omega)
    have h4 : 2 ^ wtL n ≤ 2 ^ (wtL y + wtL n) := Nat.pow_le_pow_right (by decide) (by omega)
    rw [Nat.pow_succ]
    omega
theorem ways_le : ∀ ss : List Stm, ways ss ≤ 2 ^ wtL ss
  | [] => by simp [ways, wtL]
  | s :: r => by
    simp only [ways, wtL]
    rw [Nat.pow_add]
    exact Nat.mul_le_mul (wayS_le s) (ways_le r)
end
theorem ways_app : ∀ (a b : List Stm), ways (a ++ b) = ways a * ways b
  | [], b => by simp [ways]
  | s :: r, b => by
    simp only [List.cons_append, ways]
    rw [ways_app r b, Nat.mul_assoc]
theorem dep_app : ∀ (a b : List Stm), depL (a ++ b) = max (depL a) (depL b)
  | [], b => by simp [depL]
  | s :: r, b => by
    simp only [List.cons_append, depL]
    rw [dep_app r b]
    omega
theorem wt_app : ∀ (a b : List Stm), wtL (a ++ b) = wtL a + wtL b
  | [], b => by simp [wtL]
  | s :: r, b => by
    simp only [List.cons_append, wtL]
    rw [wt_app r b]
    omega
theorem dep_at : ∀ {ss : List Stm} {i : Nat} {s : Stm}, ss[i]? = some s → depS s ≤ depL ss
  | [], _, _, h => by cases h
  | _ :: _, 0, _, h => by cases h; simp only [depL]; omega
  | _ :: r, i + 1, _, h => by
    have := dep_at (ss := r) (i := i) (by simpa using h)
    simp only [depL]
    omega
theorem wt_at : ∀ {ss : List Stm} {i : Nat} {s : Stm}, ss[i]? = some s → wtS s + wtL (ss.take i) ≤ wtL ss
  | [], _, _, h => by cases h
  | _ :: _, 0, _, h => by cases h; simp only [wtL, List.take_zero]; omega
  | a :: r, i + 1, _, h => by
    have := wt_at (ss := r) (i := i) (by simpa using h)
    simp only [wtL, List.take_succ_cons]
    omega
theorem dep_take (n : Nat) (ss : List Stm) : depL (ss.take n) ≤ depL ss := by
  have h := dep_app (ss.take n) (ss.drop n)
  rw [List.take_append_drop] at h
  omega
theorem wt_take (n : Nat) (ss : List Stm) : wtL (ss.take n) ≤ wtL ss := by
  have h := wt_app (ss.take n) (ss.drop n)
  rw [List.take_append_drop] at h
  omega
theorem ways_lt {ss : List Stm} : ((ways ss : Nat) : Int).natAbs < 2 ^ (wtL ss + 1) := by
  rw [Int.natAbs_natCast, Nat.pow_succ]
  have h1 := ways_le ss
  have h2 : 0 < 2 ^ wtL ss := Nat.pow_pos (by decide)
  omega
theorem wayS_lt {s : Stm} : ((wayS s : Nat) : Int).natAbs < 2 ^ (wtS s + 1) := by
  rw [Int.natAbs_natCast, Nat.pow_succ]
  have h1 := wayS_le s
  have h2 : 0 < 2 ^ wtS s := Nat.pow_pos (by decide)
  omega

-- CUT
/-! ## The program: ways through statements -/
section
variable {X : Cx}
theorem iop_mulW : OpR X (inplaceOp .Mult) (rI CMulW fun i j => .int (i * j)) := opI fun _ _ _ _ _ _ _ hc q => PyProof.Rows.imul_int q hc.ok
end
section
variable {P : Program} {w : World} {K : PySem.W.Frag} {mg : Str → Option Value} {base : Heap} {A : Ad}
def spWays (tl : Bool) (n : Nat) : Sp := fun vs H Q _ => ∃ (t : Addr) (us : List V) (ss : List Stm), vs = [.ref t] ∧ H t = some (if tl then .lst us else .tup us) ∧ IsAll H ss us ∧ depL ss ≤ n ∧ wtL ss ≤ 400000 ∧ Q (.int ((ways ss : Nat) : Int)) H
def spWayS (n : Nat) : Sp := fun vs H Q _ => ∃ (v : V) (s : Stm), vs = [v] ∧ IsS H s v ∧ depS s ≤ n ∧ wtS s ≤ 400000 ∧ Q (.int ((wayS s : Nat) : Int)) H
theorem ways_take {ss : List Stm} {i : Nat} {s : Stm} (h : ss[i]? = some s) : ways (ss.take (i + 1)) = ways (ss.take i) * wayS s := by
  rw [List.take_add_one, h, ways_app]
  simp [ways]
theorem ways_mul {ss : List Stm} {i : Nat} {s : Stm} (h : ss[i]? = some s) : ((ways (ss.take i) : Nat) : Int) * ((wayS s : Nat) : Int) = ((ways (ss.take (i + 1)) : Nat) : Int) := by
  rw [ways_take h, Int.natCast_mul]
theorem len_le {H : Hp} {ss : List Stm} {us : List V} (h : IsAll H ss us) : ss.take us.length = ss := by
  rw [← h.len, List.take_length]
theorem ok_through {kk : Nat} (T : Txt K mg A) (n : Nat) (G : FnOk P w K mg base CX0 kk A.f_ways_at A.fd_ways_at ["statement"] (spWayS n)) : ∀ tl : Bool, FnOk P w K mg base CX0 (kk + 1) A.f_ways_through A.fd_ways_through ["statements"] (spWays tl n)
  | true => by
    refine T.d_ways_through.F.ok sc_ways_through (fun vs H Q E h => ?_) (fun cdv ar outer s H vs Q E hr h => ?_)
    · obtain ⟨t, us, ss, rfl, _⟩ := h
      rfl
    obtain ⟨t, us, ss, rfl, ht, hA, hd, hw, q⟩ := h
    refine ⟨_, (pss_cons (ps_set (i := 1) sc_ways_through.nd rfl (Or.inl rfl) pe_int)
    (pss_cons (ps_for PassesOwn.never rfl (pi_list (pv 0)) (pg_name (i := 2) sc_ways_through.nd rfl (Or.inl rfl)) (pss_one (ps_aug (i := 1) sc_ways_through.nd rfl (.inl rfl) (pe_call G hr rfl T.d_ways_at.m T.d_ways_at.F.kp T.d_ways_at.b .nil pass0 (pa_cons (pv 2) pa_nil)) iop_mulW)))
    (pss_one (ps_ret (pv 1))))), ?_⟩
    refine ⟨_, rfl, t, rfl, ⟨_, SqL.of ht⟩, ?_⟩
    refine for_list (xs := us) (fun i σ H' => H' = H ∧ ∃ u, σ = [some (.ref t), some (.int ((ways (ss.take i) : Nat) : Int)), u]) ⟨rfl, _, rfl⟩ (fun i σ H' _ h => by rw [h.1]; exact SqL.of ht) ?_ ?_
    · rintro i v σ _ hv ⟨rfl, u, rfl⟩
      obtain ⟨s, hs, hS⟩ := hA.at hv
      have h1 := dep_at hs
      have h2 := wt_at hs
      refine ⟨_, rfl, _, rfl, _, s, rfl, hS, by omega, by omega, _, _, rfl, rfl, w_mul ways_lt wayS_lt (by omega), rfl, some v, ?_⟩
      rw [← ways_mul hs]
      rfl
    · rintro σ _ ⟨rfl, u, rfl⟩
      rw [len_le hA]
      exact ⟨_, rfl, q⟩
  | false => by
    refine T.d_ways_through.F.ok sc_ways_through (fun vs H Q E h => ?_) (fun cdv ar outer s H vs Q E hr h => ?_)
    · obtain ⟨t, us, ss, rfl, _⟩ := h
      rfl
    obtain ⟨t, us, ss, rfl, ht, hA, hd, hw, q⟩ := h
    refine ⟨_, (pss_cons (ps_set (i := 1) sc_ways_through.nd rfl (Or.inl rfl) pe_int)
    (pss_cons (ps_for PassesOwn.never rfl (pi_tup (pv 0)) (pg_name (i := 2) sc_ways_through.nd rfl (Or.inl rfl)) (pss_one (ps_aug (i := 1) sc_ways_through.nd rfl (.inl rfl) (pe_call G hr rfl T.d_ways_at.m T.d_ways_at.F.kp T.d_ways_at.b .nil pass0 (pa_cons (pv 2) pa_nil)) iop_mulW)))
    (pss_one (ps_ret (pv 1))))), ?_⟩
    refine ⟨_, rfl, t, rfl, ⟨_, SqT.of ht⟩, ?_⟩
    refine for_tup (xs := us) (fun i σ H' => H' = H ∧ ∃ u, σ = [some (.ref t), some (.int ((ways (ss.take i) : Nat) : Int)), u]) ⟨rfl, _, rfl⟩ (fun i σ H' _ h => by rw [h.1]; exact SqT.of ht) ?_ ?_
    · rintro i v σ _ hv ⟨rfl, u, rfl⟩
      obtain ⟨s, hs, hS⟩ := hA.at hv
      have h1 := dep_at hs
      have h2 := wt_at hs
      refine ⟨_, rfl, _, rfl, _, s, rfl, hS, by omega, by omega, _, _, rfl, rfl, w_mul ways_lt wayS_lt (by omega), rfl, some v, ?_⟩
      rw [← ways_mul hs]
      rfl
    · rintro σ _ ⟨rfl, u, rfl⟩
      rw [len_le hA]
      exact ⟨_, rfl, q⟩
theorem ix_n {K : PySem.W.Frag} {H : Hp} {t : Addr} {xs : List V} {n : Nat} {v : V} {Q : VK} (h : H t = some (.tup xs)) (hv : xs[n]? = some v) (q : Q v H) : ∃ p ys i u, V.ref t = .ref p ∧ V.int ((n : Nat) : Int) = .int i ∧ SqT K H p ys ∧ atI ys i = some u ∧ Q u H :=
  ⟨t, xs, _, v, rfl, rfl, SqT.of h, atI_nat hv, q⟩
theorem word_no {a b : Str} (h : a ≠ b) : decide (V.str a = V.str b) = false := decide_eq_false fun z => h (by injection z)
theorem ok_at (T : Txt K mg A) (n kk : Nat) (Gt : FnOk P w K mg base CX0 kk A.f_ways_through A.fd_ways_through ["statements"] (fun vs H Q E => ∃ m, n = m + 1 ∧ spWays false m vs H Q E)) : FnOk P w K mg base CX0 (kk + 1) A.f_ways_at A.fd_ways_at ["statement"] (spWayS n) := by
  refine T.d_ways_at.F.ok sc_ways_at (fun vs H Q E h => ?_) (fun cdv ar outer s H vs Q E hr h => ?_)
  · obtain ⟨v, s, rfl, _⟩ := h
    rfl
  obtain ⟨v, s, rfl, hS, hd, hw, q⟩ := h
  refine ⟨_, (pss_cons (ps_set (i := 1) sc_ways_at.nd rfl (Or.inl rfl) (pe_ix (r := rIxT K) ix_tup (pv 0) pe_int (fun _ _ => rfl)))
    (pss_cons (ps_if (pt_cmpR op_eq (pv 1) pe_str (nomark _)) (pss_one (ps_ret pe_int)) pss_nil)
    (pss_cons (ps_if (pt_cmpR op_eq (pv 1) pe_str (nomark _)) (pss_one (ps_ret (pe_callB (r := rLenK K) call_len_seq (by rfl) T.len (by decide +kernel) (pa_cons (pe_ix (r := rIxT K) ix_tup (pv 0) pe_int (fun _ _ => rfl)) pa_nil)))) pss_nil)
    (pss_cons (ps_if (pt_cmpR op_eq (pv 1) pe_str (nomark _)) (pss_one (ps_ret (pe_op op_add (pe_call Gt hr rfl T.d_ways_through.m T.d_ways_through.F.kp T.d_ways_through.b .nil pass0 (pa_cons (pe_ix (r := rIxT K) ix_tup (pv 0) pe_int (fun _ _ => rfl)) pa_nil)) (pe_call Gt hr rfl T.d_ways_through.m T.d_ways_through.F.kp T.d_ways_through.b .nil pass0 (pa_cons (pe_ix (r := rIxT K) ix_tup (pv 0) pe_int (fun _ _ => rfl)) pa_nil))))) pss_nil)
    (pss_one (ps_ret pe_int)))))), ?_⟩
  cases s with
  | trim a b pl x y =>
    obtain ⟨t, rfl, ht⟩ := hS
    refine ⟨_, rfl, t, _, _, _, rfl, rfl, SqT.of ht, at_of (j := 0) rfl rfl, ?_⟩
    refine ⟨_, rfl, rfl, _, rfl, ?_⟩
    rw [decide_eq_true rfl]
    exact iteT q
  | pick pl w ps ns =>
    obtain ⟨t, s, u, rfl, ht, ⟨p, rfl, hp⟩, hn⟩ := hS
    refine ⟨_, rfl, t, _, _, _, rfl, rfl, SqT.of ht, at_of (j := 0) rfl rfl, ?_⟩
    refine ⟨_, rfl, rfl, _, rfl, ?_⟩
    rw [word_no (by decide)]
    refine iteF ⟨_, rfl, rfl, _, rfl, ?_⟩
    rw [decide_eq_true rfl]
    refine iteT ⟨_, rfl, t, _, _, _, rfl, rfl, SqT.of ht, at_of (j := 3) rfl rfl, p, _, rfl, .inr (SqT.of hp), ?_⟩
    rw [List.length_map]
    exact q
  | ask pl a r b yes no =>
    obtain ⟨t, s, y, z, rfl, ht, hr', ⟨vs, hy, hY⟩, ⟨us, hz, hN⟩⟩ := hS
    simp only [depS, wtS] at hd hw
    refine ⟨_, rfl, t, _, _, _, rfl, rfl, SqT.of ht, at_of (j := 0) rfl rfl, ?_⟩
    refine ⟨_, rfl, rfl, _, rfl, ?_⟩
    rw [word_no (by decide)]
    refine iteF ⟨_, rfl, rfl, _, rfl, ?_⟩
    rw [word_no (by decide)]
    refine iteF ⟨_, rfl, rfl, _, rfl, ?_⟩
    rw [decide_eq_true rfl]
    refine iteT ⟨_, rfl, t, _, _, _, rfl, rfl, SqT.of ht, at_of (j := 5) rfl rfl, n - 1, by omega, y, vs, yes, rfl, hy, hY, by omega, by omega, ?_⟩
    refine ⟨_, rfl, t, _, _, _, rfl, rfl, SqT.of ht, at_of (j := 6) rfl rfl, n - 1, by omega, z, us, no, rfl, hz, hN, by omega, by omega, _, _, rfl, rfl, ?_⟩
    show Q (.int (((ways yes : Nat) : Int) + ((ways no : Nat) : Int))) _
    rw [← Int.natCast_add]
    exact q
  | cut a pl r x y =>
    obtain ⟨t, s, rfl, ht, _⟩ := hS
    refine ⟨_, rfl, t, _, _, _, rfl, rfl, SqT.of ht, at_of (j := 0) rfl rfl, ?_⟩
    refine ⟨_, rfl, rfl, _, rfl, ?_⟩
    rw [word_no (by decide)]
    refine iteF ⟨_, rfl, rfl, _, rfl, ?_⟩
    rw [word_no (by decide)]
    refine iteF ⟨_, rfl, rfl, _, rfl, ?_⟩
    rw [word_no (by decide)]
    exact iteF q
  | join ps x =>
    obtain ⟨t, s, rfl, ht, _⟩ := hS
    refine ⟨_, rfl, t, _, _, _, rfl, rfl, SqT.of ht, at_of (j := 0) rfl rfl, ?_⟩
    refine ⟨_, rfl, rfl, _, rfl, ?_⟩
    rw [word_no (by decide)]
    refine iteF ⟨_, rfl, rfl, _, rfl, ?_⟩
    rw [word_no (by decide)]
    refine iteF ⟨_, rfl, rfl, _, rfl, ?_⟩
    rw [word_no (by decide)]
    exact iteF q
  | give a pl =>
    obtain ⟨t, rfl, ht⟩ := hS
    refine ⟨_, rfl, t, _, _, _, rfl, rfl, SqT.of ht, at_of (j := 0) rfl rfl, ?_⟩
    refine ⟨_, rfl, rfl, _, rfl, ?_⟩
    rw [word_no (by decide)]
    refine iteF ⟨_, rfl, rfl, _, rfl, ?_⟩
    rw [word_no (by decide)]
    refine iteF ⟨_, rfl, rfl, _, rfl, ?_⟩
    rw [word_no (by decide)]
    exact iteF q
  | drop a =>
    obtain ⟨t, rfl, ht⟩ := hS
    refine ⟨_, rfl, t, _, _, _, rfl, rfl, SqT.of ht, at_of (j := 0) rfl rfl, ?_⟩
    refine ⟨_, rfl, rfl, _, rfl, ?_⟩
    rw [word_no (by decide)]
    refine iteF ⟨_, rfl, rfl, _, rfl, ?_⟩
    rw [word_no (by decide)]
    refine iteF ⟨_, rfl, rfl, _, rfl, ?_⟩
    rw [word_no (by decide)]
    exact iteF q
theorem prog_ways (T : Txt K mg A) : ∀ n : Nat, FnOk P w K mg base CX0 (2 * n + 1) A.f_ways_at A.fd_ways_at ["statement"] (spWayS n) ∧ ∀ tl, FnOk P w K mg base CX0 (2 * n + 2) A.f_ways_through A.fd_ways_through ["statements"] (spWays tl n)
  | 0 => by
    have h : FnOk P w K mg base CX0 (2 * 0 + 1) A.f_ways_at A.fd_ways_at ["statement"] (spWayS 0) := ok_at T 0 0 ⟨fun _ _ _ _ h => by obtain ⟨m, h, _⟩ := h; exact absurd h (by omega), fun _ _ _ _ _ _ _ _ _ _ _ _ _ h => by obtain ⟨m, h, _⟩ := h; exact absurd h (by omega)⟩
    exact ⟨h, ok_through T 0 h⟩
  | n + 1 => by
    have ih := prog_ways T n
    have h : FnOk P w K mg base CX0 (2 * (n + 1) + 1) A.f_ways_at A.fd_ways_at ["statement"] (spWayS (n + 1)) := ok_at T (n + 1) (2 * n + 2) ((ih.2 false).imp fun vs H Q E h => by
      obtain ⟨m, e, h⟩ := h
      have : m = n := by omega
      subst this
      exact h)
    exact ⟨h, ok_through T (n + 1) h⟩
/-- statements nested at most twenty deep, as a list or a tuple -/
theorem ok_ways_through (T : Txt K mg A) : FnOk P w K mg base CX0 42 A.f_ways_through A.fd_ways_through ["statements"] (fun vs H Q E => ∃ tl, spWays tl 20 vs H Q E) :=
  ⟨fun vs H Q E h => Exists.elim h fun tl h => ((prog_ways (P := P) (w := w) (base := base) T 20).2 tl).len vs H Q E h, fun ar outer s H args us vs Q E hr e0 hb r h => Exists.elim h fun tl h => ((prog_ways T 20).2 tl).run ar outer s H args us vs Q E hr e0 hb r h⟩
/-! ## The law's own count -/
theorem ok_lways_step (T : Txt K mg A) (n kk : Nat) (G : FnOk P w K mg base CX0 kk A.f_ways A.fd_ways ["_law_lines_here"] (fun vs H Q E => ∃ m, n = m + 1 ∧ spWays false m vs H Q E)) : FnOk P w K mg base CX0 (kk + 1) A.f_ways A.fd_ways ["_law_lines_here"] (spWays false n) := by
  refine T.d_ways.F.ok sc_ways (fun vs H Q E h => ?_) (fun cdv ar outer s H vs Q E hr h => ?_)
  · obtain ⟨t, us, ss, rfl, _⟩ := h
    rfl
  obtain ⟨t, us, ss, rfl, ht, hA, hd, hw, q⟩ := h
  refine ⟨_, (pss_cons (ps_set (i := 1) sc_ways.nd rfl (Or.inl rfl) pe_int)
    (pss_cons (ps_for PassesOwn.never rfl (pi_tup (pv 0)) (pg_name (i := 2) sc_ways.nd rfl (Or.inl rfl)) (pss_cons (ps_if (pt_cmpR op_eq (pe_ix (r := rIxT K) ix_tup (pv 2) pe_int (fun _ _ => rfl)) pe_str (nomark _)) (pss_one (ps_set (i := 1) sc_ways.nd rfl (Or.inl rfl) (pe_op op_mul (pv 1) pe_int))) pss_nil)
    (pss_cons (ps_if (pt_cmpR op_eq (pe_ix (r := rIxT K) ix_tup (pv 2) pe_int (fun _ _ => rfl)) pe_str (nomark _)) (pss_one (ps_set (i := 1) sc_ways.nd rfl (Or.inl rfl) (pe_op op_mulW (pv 1) (pe_callB (r := rLenK K) call_len_seq (by rfl) T.len (by decide +kernel) (pa_cons (pe_ix (r := rIxT K) ix_tup (pv 2) pe_int (fun _ _ => rfl)) pa_nil))))) pss_nil)
    (pss_one (ps_if (pt_cmpR op_eq (pe_ix (r := rIxT K) ix_tup (pv 2) pe_int (fun _ _ => rfl)) pe_str (nomark _)) (pss_one (ps_set (i := 1) sc_ways.nd rfl (Or.inl rfl) (pe_op op_mulW (pv 1) (pe_op op_add (pe_call G hr rfl T.d_ways.m T.d_ways.F.kp T.d_ways.b .nil pass0 (pa_cons (pe_ix (r := rIxT K) ix_tup (pv 2) pe_int (fun _ _ => rfl)) pa_nil)) (pe_call G hr rfl T.d_ways.m T.d_ways.F.kp T.d_ways.b .nil pass0 (pa_cons (pe_ix (r := rIxT K) ix_tup (pv 2) pe_int (fun _ _ => rfl)) pa_nil)))))) pss_nil)))))
    (pss_one (ps_ret (pv 1))))), ?_⟩
  refine ⟨_, rfl, t, rfl, ⟨_, SqT.of ht⟩, ?_⟩
  refine for_tup (xs := us) (fun i σ H' => H' = H ∧ ∃ u, σ = [some (.ref t), some (.int ((ways (ss.take i) : Nat) : Int)), u]) ⟨rfl, _, rfl⟩ (fun i σ H' _ h => by rw [h.1]; exact SqT.of ht) ?_ ?_
  · rintro i v σ _ hv ⟨rfl, u, rfl⟩
    obtain ⟨s, hs, hS⟩ := hA.at hv
    have h1 := dep_at hs
    have h2 := wt_at hs
    cases s with
    | trim a b pl x y =>
      obtain ⟨t1, rfl, h0⟩ := hS
      refine ⟨_, rfl, t1, _, _, _, rfl, rfl, SqT.of h0, at_of (j := 0) rfl rfl, rfl, _, rfl, ?_⟩
      rw [decide_eq_true rfl]
      refine iteT ⟨_, rfl, _, _, rfl, rfl, .inr ⟨by decide, by decide⟩, ?_⟩
      refine ⟨_, rfl, t1, _, _, _, rfl, rfl, SqT.of h0, at_of (j := 0) rfl rfl, rfl, _, rfl, ?_⟩
      rw [word_no (by decide)]
      refine iteF ⟨_, rfl, t1, _, _, _, rfl, rfl, SqT.of h0, at_of (j := 0) rfl rfl, rfl, _, rfl, ?_⟩
      rw [word_no (by decide)]
      refine iteF ⟨rfl, some (.ref t1), ?_⟩
      rw [← ways_mul hs]
      rfl
    | pick pl w ps ns =>
      obtain ⟨t1, s, u, rfl, h0, ⟨p, rfl, hp⟩, hn⟩ := hS
      refine ⟨_, rfl, t1, _, _, _, rfl, rfl, SqT.of h0, at_of (j := 0) rfl rfl, rfl, _, rfl, ?_⟩
      rw [word_no (by decide)]
      refine iteF ⟨_, rfl, t1, _, _, _, rfl, rfl, SqT.of h0, at_of (j := 0) rfl rfl, rfl, _, rfl, ?_⟩
      rw [decide_eq_true rfl]
      refine iteT ⟨_, rfl, _, rfl, t1, _, _, _, rfl, rfl, SqT.of h0, at_of (j := 3) rfl rfl, p, _, rfl, .inr (SqT.of hp), _, _, rfl, rfl, (by rw [List.length_map]; exact w_mul ways_lt (wayS_lt (s := .pick pl w ps ns)) (by omega)), ?_⟩
      refine ⟨_, rfl, t1, _, _, _, rfl, rfl, SqT.of h0, at_of (j := 0) rfl rfl, rfl, _, rfl, ?_⟩
      rw [word_no (by decide)]
      refine iteF ⟨rfl, some (.ref t1), ?_⟩
      rw [← ways_mul hs]
      rw [List.length_map]
      rfl
    | ask pl a r b yes no =>
      obtain ⟨t1, s, y, z, rfl, h0, hr', ⟨vs, hy, hY⟩, ⟨us, hz, hN⟩⟩ := hS
      refine ⟨_, rfl, t1, _, _, _, rfl, rfl, SqT.of h0, at_of (j := 0) rfl rfl, rfl, _, rfl, ?_⟩
      rw [word_no (by decide)]
      refine iteF ⟨_, rfl, t1, _, _, _, rfl, rfl, SqT.of h0, at_of (j := 0) rfl rfl, rfl, _, rfl, ?_⟩
      rw [word_no (by decide)]
      refine iteF ⟨_, rfl, t1, _, _, _, rfl, rfl, SqT.of h0, at_of (j := 0) rfl rfl, rfl, _, rfl, ?_⟩
      rw [decide_eq_true rfl]
      refine iteT ⟨_, rfl, _, rfl, t1, _, _, _, rfl, rfl, SqT.of h0, at_of (j := 5) rfl rfl, n - 1, by simp only [depS] at h1; omega, y, vs, yes, rfl, hy, hY, by simp only [depS] at h1; omega, by simp only [wtS] at h2; omega, ?_⟩
      refine ⟨_, rfl, t1, _, _, _, rfl, rfl, SqT.of h0, at_of (j := 6) rfl rfl, n - 1, by simp only [depS] at h1; omega, z, us, no, rfl, hz, hN, by simp only [depS] at h1; omega, by simp only [wtS] at h2; omega, _, _, rfl, rfl, _, _, rfl, rfl, (by have q := wayS_lt (s := .ask pl a r b yes no); simp only [wayS] at q; rw [Int.natCast_add] at q; exact w_mul ways_lt q (by omega)), ?_⟩
      refine ⟨rfl, some (.ref t1), ?_⟩
      rw [← ways_mul hs]
      simp only [wayS]
      rw [Int.natCast_add]
      rfl
    | cut a pl r x y =>
      obtain ⟨t1, s, rfl, h0, _⟩ := hS
      refine ⟨_, rfl, t1, _, _, _, rfl, rfl, SqT.of h0, at_of (j := 0) rfl rfl, rfl, _, rfl, ?_⟩
      rw [word_no (by decide)]
      refine iteF ⟨_, rfl, t1, _, _, _, rfl, rfl, SqT.of h0, at_of (j := 0) rfl rfl, rfl, _, rfl, ?_⟩
      rw [word_no (by decide)]
      refine iteF ⟨_, rfl, t1, _, _, _, rfl, rfl, SqT.of h0, at_of (j := 0) rfl rfl, rfl, _, rfl, ?_⟩
      rw [word_no (by decide)]
      refine iteF ⟨rfl, some (.ref t1), ?_⟩
      rw [← ways_mul hs]
      simp only [wayS]
      rw [Int.natCast_one, Int.mul_one]
      rfl
    | join ps x =>
      obtain ⟨t1, s, rfl, h0, _⟩ := hS
      refine ⟨_, rfl, t1, _, _, _, rfl, rfl, SqT.of h0, at_of (j := 0) rfl rfl, rfl, _, rfl, ?_⟩
      rw [word_no (by decide)]
      refine iteF ⟨_, rfl, t1, _, _, _, rfl, rfl, SqT.of h0, at_of (j := 0) rfl rfl, rfl, _, rfl, ?_⟩
      rw [word_no (by decide)]
      refine iteF ⟨_, rfl, t1, _, _, _, rfl, rfl, SqT.of h0, at_of (j := 0) rfl rfl, rfl, _, rfl, ?_⟩
      rw [word_no (by decide)]
      refine iteF ⟨rfl, some (.ref t1), ?_⟩
      rw [← ways_mul hs]
      simp only [wayS]
      rw [Int.natCast_one, Int.mul_one]
      rfl
    | give a pl =>
      obtain ⟨t1, rfl, h0⟩ := hS
      refine ⟨_, rfl, t1, _, _, _, rfl, rfl, SqT.of h0, at_of (j := 0) rfl rfl, rfl, _, rfl, ?_⟩
      rw [word_no (by decide)]
      refine iteF ⟨_, rfl, t1, _, _, _, rfl, rfl, SqT.of h0, at_of (j := 0) rfl rfl, rfl, _, rfl, ?_⟩
      rw [word_no (by decide)]
      refine iteF ⟨_, rfl, t1, _, _, _, rfl, rfl, SqT.of h0, at_of (j := 0) rfl rfl, rfl, _, rfl, ?_⟩
      rw [word_no (by decide)]
      refine iteF ⟨rfl, some (.ref t1), ?_⟩
      rw [← ways_mul hs]
      simp only [wayS]
      rw [Int.natCast_one, Int.mul_one]
      rfl
    | drop a =>
      obtain ⟨t1, rfl, h0⟩ := hS
      refine ⟨_, rfl, t1, _, _, _, rfl, rfl, SqT.of h0, at_of (j := 0) rfl rfl, rfl, _, rfl, ?_⟩
      rw [word_no (by decide)]
      refine iteF ⟨_, rfl, t1, _, _, _, rfl, rfl, SqT.of h0, at_of (j := 0) rfl rfl, rfl, _, rfl, ?_⟩
      rw [word_no (by decide)]
      refine iteF ⟨_, rfl, t1, _, _, _, rfl, rfl, SqT.of h0, at_of (j := 0) rfl rfl, rfl, _, rfl, ?_⟩
      rw [word_no (by decide)]
      refine iteF ⟨rfl, some (.ref t1), ?_⟩
      rw [← ways_mul hs]
      simp only [wayS]
      rw [Int.natCast_one, Int.mul_one]
      rfl
  · rintro σ _ ⟨rfl, u, rfl⟩
    rw [len_le hA]
    exact ⟨_, rfl, q⟩
theorem law_ways (T : Txt K mg A) : ∀ n : Nat, FnOk P w K mg base CX0 (n + 1) A.f_ways A.fd_ways ["_law_lines_here"] (spWays false n)
  | 0 => ok_lways_step T 0 0 ⟨fun _ _ _ _ h => by obtain ⟨m, h, _⟩ := h; exact absurd h (by omega), fun _ _ _ _ _ _ _ _ _ _ _ _ _ h => by obtain ⟨m, h, _⟩ := h; exact absurd h (by omega)⟩
  | n + 1 => ok_lways_step T (n + 1) (n + 1) ((law_ways T n).imp fun vs H Q E h => by
      obtain ⟨m, e, h⟩ := h
      have : m = n := by omega
      subst this
      exact h)
theorem ok_ways (T : Txt K mg A) : FnOk P w K mg base CX0 21 A.f_ways A.fd_ways ["_law_lines_here"] (spWays false 20) := law_ways T 20
end

-- CUT2
/-! ## Lists of names -/
def NmL (xs : List Str) : Prop := ∀ x ∈ xs, x.length ≤ 20 ∧ PyData.strOk x = true
theorem NmL.sub {xs ys : List Str} (h : NmL xs) (s : ∀ y ∈ ys, y ∈ xs) : NmL ys := fun y hy => h y (s y hy)
theorem NmL.app {xs ys : List Str} (h : NmL xs) (g : NmL ys) : NmL (xs ++ ys) := fun y hy => (List.mem_append.mp hy).elim (h y) (g y)
theorem erase_perm {α : Type} : ∀ {l : List α} {k : Nat} {x : α}, l[k]? = some x → (l.eraseIdx k ++ [x]).Perm l
  | [], _, _, h => by cases h
  | a :: r, 0, x, h => by
    cases h
    exact List.perm_append_comm
  | a :: r, k + 1, x, h => by
    have := erase_perm (l := r) (k := k) (x := x) (by simpa using h)
    simpa using this.cons a
theorem nodup_filter {p : Str → Bool} {xs : List Str} (h : xs.Nodup) : (xs.filter p).Nodup := h.sublist List.filter_sublist
theorem mem_len : ∀ {qs ps : List Str}, ps.Nodup → (∀ p ∈ ps, p ∈ qs) → ps.length ≤ qs.length
  | [], ps, _, h => by
    cases ps with
    | nil => exact Nat.le_refl _
    | cons a r => exact absurd (h a List.mem_cons_self) (by simp)
  | q :: qs, ps, nd, h => by
    have h1 : (ps.filter fun x => decide (x ≠ q)).length ≤ qs.length := mem_len (nodup_filter nd) fun p hp => by
      rw [List.mem_filter] at hp
      rcases List.mem_cons.mp (h p hp.1) with z | z
      · exact absurd z (of_decide_eq_true hp.2)
      · exact z
    have h2 : ps.length ≤ (ps.filter fun x => decide (x ≠ q)).length + 1 := by
      clear h h1
      induction ps with
      | nil => simp
      | cons a r ih =>
        have nd2 := List.nodup_cons.mp nd
        by_cases e : a = q
        · subst e
          have : (r.filter fun x => decide (x ≠ a)) = r := List.filter_eq_self.mpr fun x hx => decide_eq_true fun z => nd2.1 (z ▸ hx)
          rw [List.filter_cons_of_neg (by simp), this]
          simp
        · rw [List.filter_cons_of_pos (by simpa using e)]
          have := ih nd2.2
          simp only [List.length_cons]
          omega
    simp only [List.length_cons]
    omega
theorem fresh_len {ps qs : List Str} (nd : ps.Nodup) : ps.length ≤ (ps.filter fun x => !decide (x ∈ qs)).length + qs.length := by
  have h1 := mem_len (nodup_filter (p := fun x => decide (x ∈ qs)) nd) (qs := qs) fun p hp => of_decide_eq_true (List.mem_filter.mp hp).2
  have h2 : (ps.filter fun x => decide (x ∈ qs)).length + (ps.filter fun x => !decide (x ∈ qs)).length = ps.length := by
    clear h1 nd
    induction ps with
    | nil => rfl
    | cons a r ih =>
      by_cases e : a ∈ qs
      · rw [List.filter_cons_of_pos (by simpa using e), List.filter_cons_of_neg (by simpa using e)]
        simp only [List.length_cons]
        omega
      · rw [List.filter_cons_of_neg (by simpa using e), List.filter_cons_of_pos (by simpa using e)]
        simp only [List.length_cons]
        omega
  omega
theorem inV_str {x : Str} {xs : List Str} : inV (.str x) (xs.map V.str) = decide (x ∈ xs) := by
  rw [Bool.eq_iff_iff]
  unfold inV
  rw [List.any_eq_true, decide_eq_true_eq]
  constructor
  · rintro ⟨y, hy, e⟩
    obtain ⟨u, hu, rfl⟩ := List.mem_map.mp hy
    have : u = x := by simpa [eqV] using e
    rw [← this]
    exact hu
  · intro h
    exact ⟨.str x, List.mem_map.mpr ⟨x, h, rfl⟩, by simp [eqV]⟩
theorem flat_strs {xs : List Str} : (xs.map V.str).all flatV = true := by
  rw [List.all_map]
  exact List.all_eq_true.mpr fun _ _ => rfl
theorem str_at {l : List Str} {i : Nat} {x : V} (h : (l.map V.str)[i]? = some x) : ∃ u, x = V.str u ∧ l[i]? = some u := by
  rw [List.getElem?_map] at h
  cases e : l[i]? with
  | none => rw [e] at h; cases h
  | some u => rw [e] at h; exact ⟨u, (Option.some.inj h).symm, rfl⟩
theorem fl_yes {gs : List Str} {u : Str} (h : (!decide (u ∈ gs)) = true) : [u].filter (fun x => !decide (x ∈ gs)) = [u] := by simp [List.filter, h]
theorem fl_no {gs : List Str} {u : Str} (h : ¬ (!decide (u ∈ gs)) = true) : [u].filter (fun x => !decide (x ∈ gs)) = [] := by simp [List.filter, h]
theorem erase_map {α β : Type} (f : α → β) : ∀ (l : List α) (k : Nat), (l.map f).eraseIdx k = (l.eraseIdx k).map f
  | [], _ => rfl
  | _ :: _, 0 => rfl
  | a :: r, k + 1 => by simp [erase_map f r k]
theorem p200 {m : Int} (h : m.natAbs ≤ 1000000) : m.natAbs < 2 ^ 200 := Nat.lt_of_lt_of_le (show m.natAbs < 2 ^ 20 by omega) (RM.pow_le (by decide))
/-- a new list -/
def NewL (H : Hp) (Q : VK) (xs : List V) : Prop := ∀ (p : Addr) (H' : Hp), Same H H' → H p = none → H' p = some (.lst xs) → Q (.ref p) H'
def spMixed : Sp := fun vs H Q _ => ∃ (b l a : Addr) (xs : List Str), vs = [.ref b, .ref a] ∧ Bag H b l ∧ H a = some (.lst (xs.map V.str)) ∧ xs.length ≤ 100 ∧ ∀ (p : Addr) (H' : Hp) (ys : List Str), Apart b H H' → Bag H' b l → H p = none → H' p = some (.lst (ys.map V.str)) → ys.Perm xs → Q (.ref p) H'
def spWithout (K : PySem.W.Frag) : Sp := fun vs H Q _ => ∃ (a g : Addr) (xs gs : List Str), vs = [.ref a, .ref g] ∧ H a = some (.lst (xs.map V.str)) ∧ (SqL K H g (gs.map V.str) ∨ SqT K H g (gs.map V.str)) ∧ xs.length ≤ 100 ∧ NewL H Q ((xs.filter fun x => !decide (x ∈ gs)).map V.str)
section
variable {P : Program} {w : World} {K : PySem.W.Frag} {mg : Str → Option Value} {base : Heap} {A : Ad}
theorem ok_without (T : Txt K mg A) : FnOk P w K mg base CX0 1 A.f_without A.fd_without ["_law_present", "_law_gone"] (spWithout K) := by
  refine T.d_without.F.ok sc_without (fun vs H Q E h => ?_) (fun cdv ar outer s H vs Q E hr h => ?_)
  · obtain ⟨a, g, xs, gs, rfl, _⟩ := h
    rfl
  obtain ⟨a, g, xs, gs, rfl, ha, hg, hl, q⟩ := h
  refine ⟨_, (pss_one (ps_ret (pe_lc (own := [("_law_name", 2)]) (g := gName 2) rfl sc_without.nd (pi_list (pv 0)) (blkOk_by (own := [("_law_name", 2)]) (N := ["_law_present", "_law_gone", "_law_name"]) (sc := defScope s_without) (by decide +kernel)) (fun _ _ _ _ _ => (pg_name (i := 2) sc_without.nd rfl (Or.inl rfl))) (fun _ _ _ _ _ => (pts_one (pt_cmpR (r := rIn K true) op_notIn_seq (pv 2) (pv 1) (by with_unfolding_all rfl)))) (fun _ _ _ _ _ => (pv 2))))), ?_⟩
  refine ⟨_, rfl, a, rfl, ⟨_, SqL.of ha⟩, fun D hD => ?_⟩
  refine lc_list (xs := xs.map V.str) (fun i H' => Same H H' ∧ H' D = some (.lst (((xs.take i).filter fun x => !decide (x ∈ gs)).map V.str))) ⟨Same.new hD _, upd_same⟩ (fun i H' _ h => SqL.of (h.1 _ _ ha)) ?_ ?_
  · rintro i v H' hi ⟨e, hD'⟩
    obtain ⟨u, rfl, hu⟩ := str_at hi
    have hg' : SqL K H' g (gs.map V.str) ∨ SqT K H' g (gs.map V.str) := hg.elim (fun h => .inl (e.seq h)) (fun h => .inr (h.elim (fun h => .inl (h.elim (fun h => .inl (e _ _ h)) fun ⟨o, h⟩ => .inr ⟨o, e _ _ h⟩)) .inr))
    refine ⟨rfl, ⟨_, rfl, _, rfl, g, _, rfl, hg', rfl, flat_strs, _, rfl, ?_⟩⟩
    show if (!inV (.str u) (gs.map V.str)) = true then _ else _
    rw [inV_str]
    have ht : xs.take (i + 1) = xs.take i ++ [u] := RM.take_succ hu
    refine ite2 (fun c => ?_) (fun c => ?_)
    · refine ⟨_, rfl, _, hD', ?_, e.set hD _, ?_⟩
      · refine sl_lt ?_
        rw [List.length_map]
        have h1 := List.length_filter_le (fun x => !decide (x ∈ gs)) (xs.take i)
        rw [List.length_take] at h1
        omega
      · rw [upd_same, ht, List.filter_append, fl_yes c, List.map_append]
        rfl
    · refine ⟨e, ?_⟩
      rw [hD', ht, List.filter_append, fl_no c, List.append_nil]
  · rintro H' ⟨e, hD'⟩
    rw [List.length_map, List.take_length] at hD'
    exact q D H' e hD hD'
theorem ok_mixed (T : Txt K mg A) : FnOk P w K mg base CX0 2 A.f_mixed A.fd_mixed ["_law_bag_here", "_law_some"] spMixed := by
  refine T.d_mixed.F.ok sc_mixed (fun vs H Q E h => ?_) (fun cdv ar outer s H vs Q E hr h => ?_)
  · obtain ⟨b, l, a, xs, rfl, _⟩ := h
    rfl
  obtain ⟨b, l, a, xs, rfl, B, ha, hl, q⟩ := h
  refine ⟨_, (pss_cons (ps_par (i := 2) (j := 3) (by rfl) sc_mixed.nd rfl rfl (by decide) rfl rfl (pa_cons (pe_callTy (r := rListK K) call_list_of (by rfl) T.list (by decide +kernel) (pa_cons (pv 1) pa_nil)) (pa_cons (pe_lst pa_nil) pa_nil)) (by rfl))
    (pss_cons (ps_for PassesOwn.never rfl (pi_range1 rfl T.range (pa_cons (pe_callB (r := rLenK K) call_len_seq (by rfl) T.len (by decide +kernel) (pa_cons (pv 1) pa_nil)) pa_nil)) (pg_name (i := 4) sc_mixed.nd rfl (Or.inl rfl)) (pss_one (ps_expr (pe_bm PySem.F.plainAttrs_list PySem.F.slot_list_append PySem.F.type_list_append mt_append (pv 3) (pa_cons (pe_bm PySem.F.plainAttrs_list PySem.F.slot_list_pop PySem.F.type_list_pop mt_popAt (pv 2) (pa_cons (pe_call (ok_pull T) (hr.mono (by decide)) rfl T.d_pull.m T.d_pull.F.kp T.d_pull.b .nil pass0 (pa_cons (pv 0) (pa_cons (pe_callB (r := rLenK K) call_len_seq (by rfl) T.len (by decide +kernel) (pa_cons (pv 2) pa_nil)) pa_nil))) pa_nil)) pa_nil)))))
    (pss_one (ps_ret (pv 3))))), ?_⟩
  refine ⟨_, rfl, a, _, rfl, .inl (SqL.of ha), fun l1 hl1 => ⟨slr rfl, fun l2 hl2 => ⟨_, _, rfl, ?_⟩⟩⟩
  have e1 : Same H (upd H l1 (.lst (xs.map V.str))) := Same.new hl1 _
  have e2 := Same.new hl2 (.lst [])
  have hl2' := e1.free hl2
  have h12 : l1 ≠ l2 := ne_of_none upd_same hl2
  refine ⟨_, rfl, a, _, rfl, .inl (SqL.of ((e1.trans e2) _ _ ha)), _, rfl, by omega, by rw [List.length_map]; omega, ?_⟩
  refine for_range (lo := 0) (n := (((xs.map V.str).length : Nat) : Int).toNat) (fun i σ H' => Bag H' b l ∧ Apart b H H' ∧ ∃ (L F : List Str) (u : Option V), σ = [some (.ref b), some (.ref a), some (.ref l1), some (.ref l2), u] ∧ H' l1 = some (.lst (L.map V.str)) ∧ H' l2 = some (.lst (F.map V.str)) ∧ F.length = i ∧ (F ++ L).Perm xs)
    ⟨B.same (e1.trans e2), (e1.trans e2).apart, xs, [], none, rfl, e2 _ _ upd_same, upd_same, rfl, List.Perm.refl _⟩ ?_ ?_
  · rintro i σ H1 hi ⟨B1, ap1, L, F, u, rfl, hL, hF, hFl, hp⟩
    have hi : i < xs.length := by rw [List.length_map] at hi; omega
    have hpl := hp.length_eq
    rw [List.length_append] at hpl
    refine ⟨_, rfl, .inl ⟨rfl, _, SqL.of hF⟩, _, rfl, .inl ⟨rfl, _, SqL.of hL⟩, _, rfl, _, rfl, l1, _, rfl, .inl (SqL.of hL), b, l, _, rfl, B1, by rw [List.length_map]; omega, p200 (by rw [List.length_map]; omega), fun r H2 r0 r1 ap2 B2 => ?_⟩
    rw [List.length_map] at r1
    have b1 : l1 ≠ b := B.ne hl1
    have b2 : l2 ≠ b := B.ne hl2'
    have hk : r.toNat < L.length := by omega
    have hx : L[r.toNat]? = some L[r.toNat] := List.getElem?_eq_getElem hk
    have hLn := ap2 _ _ b1 hL
    have hFn := ap2 _ _ b2 hF
    refine ⟨l1, _, r, r.toNat, .str L[r.toNat], rfl, rfl, hLn, by omega, by omega, by rw [List.length_map]; exact seqIndex_of r0 r1, by rw [List.getElem?_map, hx]; rfl, ?_⟩
    refine ⟨l2, F.map V.str, _, rfl, rfl, by rw [upd_ne h12.symm]; exact hFn, by rw [List.length_map]; exact sl_lt (by omega), ?_⟩
    have hB3 := (B2.upd b1 (B.ne2 hl1) (o := .lst ((L.map V.str).eraseIdx r.toNat))).upd b2 (B.ne2 hl2') (o := .lst (F.map V.str ++ [V.str L[r.toNat]]))
    refine ⟨hB3, fun p o np ep => ?_, L.eraseIdx r.toNat, F ++ [L[r.toNat]], _, rfl, ?_, ?_, by rw [List.length_append, hFl]; rfl, ?_⟩
    · rw [upd_ne (ne_of_none ep hl2'), upd_ne (ne_of_none ep hl1)]
      exact ap2 _ _ np (ap1 _ _ np ep)
    · rw [upd_ne h12, upd_same, erase_map]
    · rw [upd_same, List.map_append]
      rfl
    · refine List.Perm.trans ?_ hp
      rw [List.append_assoc]
      exact List.Perm.append_left F (List.perm_append_comm.trans (erase_perm hx))
  · rintro σ H1 ⟨B1, ap1, L, F, u, rfl, hL, hF, hFl, hp⟩
    have hpl := hp.length_eq
    rw [List.length_append, hFl, List.length_map] at hpl
    have hL0 : L = [] := List.eq_nil_of_length_eq_zero (by omega)
    subst hL0
    rw [List.append_nil] at hp
    exact ⟨_, rfl, q l2 H1 F ap1 B1 hl2' hF hp⟩
def spFresh : Sp := fun vs H Q _ => ∃ (b l po pr : Addr) (ps qs : List Str) (m : Nat), vs = [.ref b, .ref po, .ref pr, .int ((m : Nat) : Int)] ∧ Bag H b l ∧ H po = some (.lst (ps.map V.str)) ∧ H pr = some (.lst (qs.map V.str)) ∧ ps.length ≤ 100 ∧ qs.length ≤ 100 ∧ ps.Nodup ∧ m + qs.length ≤ ps.length ∧
  ∀ (p : Addr) (H' : Hp) (ys : List Str), Apart b H H' → Bag H' b l → H p = none → H' p = some (.lst (ys.map V.str)) → ys.length = m → ys.Nodup → (∀ y ∈ ys, y ∈ ps ∧ y ∉ qs) → Q (.ref p) H'
theorem none_back {b : Addr} {l : Addr} {H H' : Hp} {p : Addr} (B : Bag H' b l) (e : Apart b H H') (h : H' p = none) : H p = none := by
  cases q : H p with
  | none => rfl
  | some o =>
    rw [e p o (B.ne h) q] at h
    cases h
theorem ok_fresh (T : Txt K mg A) : FnOk P w K mg base CX0 3 A.f_fresh A.fd_fresh ["_law_bag_here", "_law_pool_here", "_law_present", "_law_many"] spFresh := by
  refine T.d_fresh.F.ok sc_fresh (fun vs H Q E h => ?_) (fun cdv ar outer s H vs Q E hr h => ?_)
  · obtain ⟨b, l, po, pr, ps, qs, m, rfl, _⟩ := h
    rfl
  obtain ⟨b, l, po, pr, ps, qs, m, rfl, B, hpo, hpr, hpl, hql, nd, hm, q⟩ := h
  refine ⟨_, (pss_one (ps_ret (pe_slice (r := rSlL K) sl_list (pe_call (ok_mixed T) (hr.mono (by decide)) rfl T.d_mixed.m T.d_mixed.F.kp T.d_mixed.b .nil pass0 (pa_cons (pv 0) (pa_cons (pe_lc (own := [("_law_name", 4)]) (g := gName 4) rfl sc_fresh.nd (pi_list (pv 1)) (blkOk_by (own := [("_law_name", 4)]) (N := ["_law_bag_here", "_law_pool_here", "_law_present", "_law_many", "_law_name"]) (sc := defScope s_fresh) (by decide +kernel)) (fun _ _ _ _ _ => (pg_name (i := 4) sc_fresh.nd rfl (Or.inl rfl))) (fun _ _ _ _ _ => (pts_one (pt_cmpR (r := rIn K true) op_notIn_seq (pv 4) (pv 2) (by with_unfolding_all rfl)))) (fun _ _ _ _ _ => (pv 4))) pa_nil))) po_none (po_some (pv 3))))), ?_⟩
  refine ⟨_, rfl, _, rfl, po, rfl, ⟨_, SqL.of hpo⟩, fun D hD => ?_⟩
  refine lc_list (xs := ps.map V.str) (fun i H' => Same H H' ∧ H' D = some (.lst (((ps.take i).filter fun x => !decide (x ∈ qs)).map V.str))) ⟨Same.new hD _, upd_same⟩ (fun i H' _ h => SqL.of (h.1 _ _ hpo)) ?_ ?_
  · rintro i v H' hi ⟨e, hD'⟩
    obtain ⟨u, rfl, hu⟩ := str_at hi
    refine ⟨rfl, ⟨_, rfl, _, rfl, pr, _, rfl, .inl (SqL.of (e _ _ hpr)), rfl, flat_strs, _, rfl, ?_⟩⟩
    show if (!inV (.str u) (qs.map V.str)) = true then _ else _
    rw [inV_str]
    have ht : ps.take (i + 1) = ps.take i ++ [u] := RM.take_succ hu
    refine ite2 (fun c => ?_) (fun c => ?_)
    · refine ⟨_, rfl, _, hD', ?_, e.set hD _, ?_⟩
      · refine sl_lt ?_
        rw [List.length_map]
        have h1 := List.length_filter_le (fun x => !decide (x ∈ qs)) (ps.take i)
        rw [List.length_take] at h1
        omega
      · rw [upd_same, ht, List.filter_append, fl_yes c, List.map_append]
        rfl
    · refine ⟨e, ?_⟩
      rw [hD', ht, List.filter_append, fl_no c, List.append_nil]
  rintro H1 ⟨e1, hD1⟩
  rw [List.length_map, List.take_length] at hD1
  have hfl := fresh_len (qs := qs) nd
  have hfm : ∀ y ∈ ps.filter fun x => !decide (x ∈ qs), y ∈ ps ∧ y ∉ qs := fun y hy => by
    rw [List.mem_filter] at hy
    exact ⟨hy.1, by simpa using hy.2⟩
  have hfn := nodup_filter (p := fun x => !decide (x ∈ qs)) nd
  have hfl2 := List.length_filter_le (fun x => !decide (x ∈ qs)) ps
  generalize ps.filter (fun x => !decide (x ∈ qs)) = fs at *
  refine ⟨b, l, D, fs, rfl, B.same e1, hD1, by omega, fun p H2 ys ap2 B2 hp0 hp2 perm => ?_⟩
  refine ⟨_, rfl, _, rfl, p, _, rfl, SqL.of hp2, fun p3 hp3 => ?_⟩
  have hyl := perm.length_eq
  have ec : cutV (ys.map V.str) none (some ((m : Nat) : Int)) = (ys.take m).map V.str := by
    unfold cutV
    rw [HT.sIx_nat, HT.sIx_none, List.length_map, List.drop_zero, Nat.sub_zero, ← List.map_take, Nat.min_eq_left (by omega)]
  rw [ec]
  have nd2 : ys.Nodup := perm.nodup_iff.mpr hfn
  refine q p3 _ (ys.take m) ((e1.apart.trans ap2).trans (Same.new hp3 _).apart) (B2.new hp3 _) (e1.free (none_back B2 ap2 hp3)) upd_same (by rw [List.length_take]; omega) (nd2.sublist (List.take_sublist _ _)) fun y hy => hfm y (perm.mem_iff.mp (List.mem_of_mem_take hy))
end

-- CUT3
/-! ## Texts -/
def rJoinK (K : PySem.W.Frag) : V → List V → Hp → VK → Prop := fun x xs H Q => ∃ a p, ∃ ys : List Str, x = .str a ∧ xs = [.ref p] ∧ (SqL K H p (ys.map V.str) ∨ SqT K H p (ys.map V.str)) ∧ (ys.map (·.length)).sum + ys.length * a.length ≤ 16777216 ∧ Q (.str (Txt.join a ys)) H
section
variable {X : Cx}
theorem op_mulS : OpR X (binaryOp .Mult) (fun x y H Q => ∃ z n, x = .str z ∧ y = .int n ∧ MulOk z n ∧ Q (.str (Txt.mul z n)) H) := by
  intro pins s σ H x y v u Q I rx ry h
  obtain ⟨z, n, rfl, rfl, ok, q⟩ := h
  obtain ⟨t, rfl⟩ := rx
  obtain ⟨t', rfl⟩ := ry
  exact SB.mul ok fun t2 k => ⟨.str _, H, I.tok k, ⟨_, rfl⟩, q⟩
end
open PyProof.Rows in
theorem join_le {a : Str} {ys : List Str} : (Txt.join a ys).length ≤ (ys.map (·.length)).sum + ys.length * a.length := by
  rw [TL.join_eq]
  exact StrLaws.join_length_le a ys
theorem sum_le {ys : List Str} {m : Nat} (h : ∀ y ∈ ys, y.length ≤ m) : (ys.map (·.length)).sum ≤ ys.length * m := by
  induction ys with
  | nil => simp
  | cons y r ih =>
    have h1 := h y List.mem_cons_self
    have h2 := ih fun z hz => h z (List.mem_cons_of_mem _ hz)
    rw [List.map_cons, List.sum_cons, List.length_cons, Nat.succ_mul]
    omega
/-! ## The law's draws of shares and of names -/
def spShare : Sp := fun vs H Q _ => ∃ (b l : Addr), vs = [.ref b] ∧ Bag H b l ∧ ∀ (v : V) (q : Rat) (H' : Hp), IsR H' v q → Apart b H H' → Bag H' b l → Q v H'
def letS : Str := "abcdefghijklmnopqrstuvwxyz"
def spLetters : Sp := fun vs H Q _ => vs = [] ∧ Q (.str letS) H
def spOfS : Sp := fun vs H Q _ => ∃ (b l : Addr) (z : Str), vs = [.ref b, .str z] ∧ Bag H b l ∧ 0 < z.length ∧ z.length ≤ 1000 ∧ ∀ (c : Nat) (H' : Hp), c ∈ z.cps.toList → Apart b H H' → Bag H' b l → Q (.str ⟨#[c]⟩) H'
/-- the signs are small -/
def Lo (z : Str) : Prop := ∀ c ∈ z.cps.toList, c < 123
theorem Lo.app {a b : Str} (h : Lo a) (g : Lo b) : Lo (a ++ b) := fun c hc => by
  rw [show (a ++ b).cps = a.cps ++ b.cps from rfl, Array.toList_append, List.mem_append] at hc
  exact hc.elim (h c) (g c)
theorem Lo.cut {a : Str} (h : Lo a) (lo hi : Option Int) : Lo (cutS a lo hi) := fun c hc => h c (List.mem_of_mem_drop (List.mem_of_mem_take hc))
theorem Lo.one {c : Nat} (h : c < 123) : Lo ⟨#[c]⟩ := fun d hd => by
  rw [show d = c by simpa using hd]
  exact h
theorem Lo.nil : Lo Str.empty := fun c hc => by simp [Str.empty] at hc
theorem Lo.ok {a : Str} (h : Lo a) : PyData.strOk a = true := by
  unfold PyData.strOk
  rw [Array.all_eq_true']
  intro c hc
  have := h c (Array.mem_toList_iff.mpr hc)
  exact decide_eq_true (by omega)
theorem Lo.glue : ∀ {ys : List Str}, (∀ y ∈ ys, Lo y) → Lo (Str.join "" ys)
  | [], _ => Lo.nil
  | [y], h => h y (by simp)
  | y :: z :: r, h => by
    show Lo (y ++ ("" : Str) ++ Str.join "" (z :: r))
    exact ((h y (by simp)).app (fun c hc => by cases (show c ∈ [] from hc))).app (Lo.glue fun x hx => h x (by simp only [List.mem_cons] at hx ⊢; exact .inr hx))
theorem Lo.joined {ys : List Str} (h : ∀ y ∈ ys, Lo y) : Lo (Txt.join "" ys) := by
  rw [TL.join_eq]
  exact Lo.glue h
theorem Lo.mul {a : Str} {n : Int} (h : Lo a) (h1 : a.length ≤ 1) : Lo (Txt.mul a n) := by
  obtain ⟨⟨l⟩⟩ := a
  match l, h1 with
  | [], _ =>
    have e : (Txt.mul ⟨⟨[]⟩⟩ n).length = 0 := by
      have := PyProof.Rows.len_mul ⟨⟨[]⟩⟩ n
      have e0 : (⟨⟨[]⟩⟩ : Str).length = 0 := rfl
      rw [e0] at this
      simp at this
      omega
    intro c hc
    have : (Txt.mul ⟨⟨[]⟩⟩ n).cps.toList = [] := List.eq_nil_of_length_eq_zero (by rw [Array.length_toList]; exact e)
    rw [this] at hc
    cases hc
  | [x], _ =>
    intro c hc
    have e : (Txt.mul ⟨#[x]⟩ n).cps.toList = List.replicate n.toNat x := PyProof.Rows.mul_one_list x n
    rw [show (⟨⟨[x]⟩⟩ : Str) = ⟨#[x]⟩ from rfl, e] at hc
    rw [(List.mem_replicate.mp hc).2]
    exact h x (by simp)
/-- one name of the pool -/
def nmOf (p s : Str) (c : Nat) : Str := p ++ ⟨#[c]⟩ ++ s
theorem nmOf_inj {p s : Str} {c d : Nat} (h : nmOf p s c = nmOf p s d) : c = d := by
  have e : p.cps ++ #[c] ++ s.cps = p.cps ++ #[d] ++ s.cps := congrArg Str.cps h
  have e2 := congrArg Array.toList e
  simpa using e2
theorem nmOf_len {p s : Str} {c : Nat} : (nmOf p s c).length = p.length + 1 + s.length := by
  show (p.cps ++ #[c] ++ s.cps).size = _
  rw [Array.size_append, Array.size_append]
  rfl
def poolL (p s : Str) (f n : Nat) : List Str := (List.range n).map fun j => nmOf p s (97 + (f + j) % 26)
theorem pool_snoc {p s : Str} {f n : Nat} : poolL p s f (n + 1) = poolL p s f n ++ [nmOf p s (97 + (f + n) % 26)] := by
  unfold poolL
  rw [List.range_succ, List.map_append]
  rfl
theorem pool_nodup {p s : Str} {f n : Nat} (h : n ≤ 26) : (poolL p s f n).Nodup := by
  unfold poolL List.Nodup
  rw [List.pairwise_map]
  refine List.Pairwise.imp_of_mem (fun {a b} ha hb ne e => ?_) (List.nodup_range (n := n))
  rw [List.mem_range] at ha hb
  have := nmOf_inj e
  omega
theorem letters_at : ∀ j < 26, letS.cps.toList[j]? = some (97 + j) := by decide +kernel
theorem letters_lo : ∀ c ∈ letS.cps.toList, c < 123 := by decide +kernel
/-- the names of a pool -/
structure PoolOk (ps : List Str) : Prop where
  len : ps.length = 12
  nodup : ps.Nodup
  nm : NmL ps
def unwhole (x : Str) : Str := if x = "whole" then "wholes" else x
theorem PoolOk.unwhole {ps : List Str} {m : Nat} (h : PoolOk ps) (hm : ∀ y ∈ ps, y.length = m) : PoolOk (ps.map unwhole) := by
  have h5 : ("whole" : Str).length = 5 := by decide
  have h6 : ("wholes" : Str).length = 6 := by decide
  refine ⟨by rw [List.length_map]; exact h.len, ?_, fun y hy => ?_⟩
  · unfold List.Nodup
    rw [List.pairwise_map]
    refine List.Pairwise.imp_of_mem (fun {a b} ha hb ne e => ne ?_) h.nodup
    have la := hm a ha
    have lb := hm b hb
    unfold Toy.unwhole at e
    split at e
    · rename_i ea
      subst ea
      split at e
      · rename_i eb
        exact eb.symm
      · rw [← e] at lb
        omega
    · split at e
      · rename_i eb
        subst eb
        rw [e] at la
        omega
      · exact e
  · obtain ⟨x, hx, rfl⟩ := List.mem_map.mp hy
    unfold Toy.unwhole
    split
    · exact ⟨by rw [h6]; decide, by decide +kernel⟩
    · exact h.nm x hx
def spPool : Sp := fun vs H Q _ => ∃ (b l : Addr), vs = [.ref b, .int 12] ∧ Bag H b l ∧ ∀ (p : Addr) (H' : Hp) (ps : List Str) (m : Nat), PoolOk ps → (∀ y ∈ ps, y.length = m) → Apart b H H' → Bag H' b l → H p = none → H' p = some (.lst (ps.map V.str)) → Q (.ref p) H'
def spPieces : Sp := fun vs H Q _ => ∃ (b l : Addr), vs = [.ref b] ∧ Bag H b l ∧ ∀ (p : Addr) (H' : Hp) (ps : List Str), PoolOk ps → Apart b H H' → Bag H' b l → H p = none → H' p = some (.lst (ps.map V.str)) → Q (.ref p) H'
section
variable {P : Program} {w : World} {K : PySem.W.Frag} {mg : Str → Option Value} {base : Heap} {A : Ad}
theorem ok_letters (T : Txt K mg A) : FnOk P w K mg base CX0 1 A.f_letters A.fd_letters [] spLetters := by
  refine T.d_letters.F.ok sc_letters (fun vs H Q E h => ?_) (fun cdv ar outer s H vs Q E hr h => ?_)
  · obtain ⟨rfl, _⟩ := h
    rfl
  obtain ⟨rfl, q⟩ := h
  refine ⟨_, (pss_one (ps_ret pe_str)), ?_⟩
  exact q
theorem ok_ofS (T : Txt K mg A) : FnOk P w K mg base CX0 2 A.f_of A.fd_of ["_law_bag_here", "_law_some"] spOfS := by
  refine T.d_of.F.ok sc_of (fun vs H Q E h => ?_) (fun cdv ar outer s H vs Q E hr h => ?_)
  · obtain ⟨b, l, z, rfl, _⟩ := h
    rfl
  obtain ⟨b, l, z, rfl, hB, h0, h1, q⟩ := h
  refine ⟨_, (pss_one (ps_ret (pe_ix (r := rIxS) ix_str (pv 1) (pe_call (ok_pull T) (hr.mono (by decide)) rfl T.d_pull.m T.d_pull.F.kp T.d_pull.b .nil pass0 (pa_cons (pv 0) (pa_cons (pe_callB call_len_str (by rfl) T.len (by decide +kernel) (pa_cons (pv 1) pa_nil)) pa_nil))) (fun _ _ => rfl)))), ?_⟩
  refine ⟨_, rfl, _, rfl, _, rfl, z, rfl, sl_small (Nat.le_trans h1 (by decide)), b, l, _, rfl, hB, by omega, Nat.lt_of_le_of_lt (show ((z.length : Nat) : Int).natAbs ≤ 1000 by omega) (by decide), fun r H' r0 r1 ap bg => ?_⟩
  have hi : r.toNat < z.cps.toList.length := by rw [Array.length_toList]; show r.toNat < z.length; omega
  have hat : atI z.cps.toList r = some z.cps.toList[r.toNat] := by
    have h := atI_nat (xs := z.cps.toList) (j := r.toNat) (List.getElem?_eq_getElem hi)
    rwa [Int.toNat_of_nonneg r0] at h
  refine ⟨z, _, _, rfl, rfl, sl_small (Nat.le_trans h1 (by decide)), hat, ?_⟩
  exact q _ H' (List.getElem_mem hi) ap bg
theorem ok_share (T : Txt K mg A) : FnOk P w K mg base CX0 3 A.f_share A.fd_share ["_law_bag_here"] spShare := by
  refine T.d_share.F.ok sc_share (fun vs H Q E h => ?_) (fun cdv ar outer s H vs Q E hr h => ?_)
  · obtain ⟨b, l, rfl, _⟩ := h
    rfl
  obtain ⟨b, l, rfl, B, q⟩ := h
  refine ⟨_, (pss_cons (ps_set (i := 1) sc_share.nd rfl (Or.inl rfl) (pe_op op_add pe_int (pe_call (ok_pull T) (hr.mono (by decide)) rfl T.d_pull.m T.d_pull.F.kp T.d_pull.b .nil pass0 (pa_cons (pv 0) (pa_cons (pe_call (ok_of T) (hr.mono (by decide)) rfl T.d_of.m T.d_of.F.kp T.d_of.b .nil pass0 (pa_cons (pv 0) (pa_cons (pe_lst (pa_cons pe_int (pa_cons pe_int (pa_cons pe_int (pa_cons pe_int pa_nil))))) pa_nil))) pa_nil)))))
    (pss_one (ps_ret (pe_call (ok_low T) (hr.mono (by decide)) rfl T.d_low.m T.d_low.F.kp T.d_low.b .nil pass0 (pa_cons (pe_call (ok_pull T) (hr.mono (by decide)) rfl T.d_pull.m T.d_pull.F.kp T.d_pull.b .nil pass0 (pa_cons (pv 0) (pa_cons (pe_op op_add (pv 1) pe_int) pa_nil))) (pa_cons (pv 1) pa_nil)))))), ?_⟩
  refine ⟨_, rfl, _, rfl, slr rfl, fun l1 hl1 => ?_⟩
  refine ⟨b, l, l1, _, rfl, B.new hl1 _, SqL.of upd_same, B.ne hl1, by show 0 < 4; decide, by show 4 ≤ 1000; decide, fun i v H1 hv ap1 B1 => ?_⟩
  obtain ⟨m, rfl, m0, m1⟩ : ∃ m : Int, v = .int m ∧ 0 < m ∧ m < 100 := by
    match i, hv with
    | 0, hv => cases hv; exact ⟨2, rfl, by decide, by decide⟩
    | 1, hv => cases hv; exact ⟨4, rfl, by decide, by decide⟩
    | 2, hv => cases hv; exact ⟨9, rfl, by decide, by decide⟩
    | 3, hv => cases hv; exact ⟨99, rfl, by decide, by decide⟩
  refine ⟨b, l, m, rfl, B1, m0, p200 (by omega), fun r H2 r0 r1 ap2 B2 => ⟨_, _, rfl, rfl, ?_⟩⟩
  refine ⟨_, rfl, _, rfl, _, _, rfl, rfl, b, l, _, rfl, B2, by omega, p200 (by omega), fun r2 H3 r20 r21 ap3 B3 => ⟨_, rfl, _, _, rfl, by omega, Nat.lt_of_lt_of_le (show (1 + r).natAbs < 2 ^ 7 by omega) (RM.pow_le (by decide)), fun p H4 e4 hp h4 => ?_⟩⟩
  exact q _ _ _ ⟨p, rfl, h4⟩ (((((Same.new hl1 _).apart.trans ap1).trans ap2).trans ap3).trans e4.apart) (B3.same e4)
theorem ok_pool (T : Txt K mg A) : FnOk P w K mg base CX0 3 A.f_pool A.fd_pool ["_law_bag_here", "_law_many"] spPool := by
  refine T.d_pool.F.ok sc_pool (fun vs H Q E h => ?_) (fun cdv ar outer s H vs Q E hr h => ?_)
  · obtain ⟨b, l, rfl, _⟩ := h
    rfl
  obtain ⟨b, l, rfl, B, q⟩ := h
  refine ⟨_, (pss_cons (ps_set (i := 2) sc_pool.nd rfl (Or.inr rfl) (pe_m1 (r := rJoinK K) PySem.F.slot_str_join PySem.F.type_str_join mt_join pe_str (pe_lc (own := [("_law_k", 5)]) (g := gName 5) (tt := tYes) rfl sc_pool.nd (pi_range1 rfl T.range (pa_cons (pe_call (ok_pull T) (hr.mono (by decide)) rfl T.d_pull.m T.d_pull.F.kp T.d_pull.b .nil pass0 (pa_cons (pv 0) (pa_cons pe_int pa_nil))) pa_nil)) (blkOk_by (own := [("_law_k", 5)]) (N := ["_law_bag_here", "_law_many", "_law_stem", "_law_at", "_law_first", "_law_k"]) (sc := defScope s_pool) (by decide +kernel)) (fun _ _ _ _ _ => (pg_name (i := 5) sc_pool.nd rfl (Or.inl rfl))) (fun _ _ _ _ _ => pts_nil) (fun _ _ _ _ _ => (pe_call (ok_ofS T) (hr.mono (by decide)) rfl T.d_of.m T.d_of.F.kp T.d_of.b .nil pass0 (pa_cons (pv 0) (pa_cons (pe_call0 (ok_letters T) (hr.mono (by decide)) rfl T.d_letters.m T.d_letters.F.kp T.d_letters.b .nil pass0) pa_nil)))))))
    (pss_cons (ps_if (pt_cmpR op_eq (pe_call (ok_pull T) (hr.mono (by decide)) rfl T.d_pull.m T.d_pull.F.kp T.d_pull.b .nil pass0 (pa_cons (pv 0) (pa_cons pe_int pa_nil))) pe_int (nomark _)) (pss_one (ps_set (i := 2) sc_pool.nd rfl (Or.inr rfl) (pe_op op_mulS (pe_slice sl_str (pv 2) po_none (po_some pe_int)) (pe_callB call_len_str (by rfl) T.len (by decide +kernel) (pa_cons (pv 2) pa_nil))))) pss_nil)
    (pss_cons (ps_asg (pe_tup (pa_cons (pe_call (ok_pull T) (hr.mono (by decide)) rfl T.d_pull.m T.d_pull.F.kp T.d_pull.b .nil pass0 (pa_cons (pv 0) (pa_cons (pe_op op_add (pe_callB call_len_str (by rfl) T.len (by decide +kernel) (pa_cons (pv 2) pa_nil)) pe_int) pa_nil))) (pa_cons (pe_call (ok_pull T) (hr.mono (by decide)) rfl T.d_pull.m T.d_pull.F.kp T.d_pull.b .nil pass0 (pa_cons (pv 0) (pa_cons pe_int pa_nil))) pa_nil))) (pg_tup rfl (pgs_cons (pg_name (i := 3) sc_pool.nd rfl (Or.inr rfl)) (pgs_cons (pg_name (i := 4) sc_pool.nd rfl (Or.inr rfl)) pgs_nil))))
    (pss_one (ps_ret (pe_lc (own := [("_law_k", 5)]) (g := gName 5) (tt := tYes) rfl sc_pool.nd (pi_range1 rfl T.range (pa_cons (pv 1) pa_nil)) (blkOk_by (own := [("_law_k", 5)]) (N := ["_law_bag_here", "_law_many", "_law_stem", "_law_at", "_law_first", "_law_k"]) (sc := defScope s_pool) (by decide +kernel)) (fun _ _ _ _ _ => (pg_name (i := 5) sc_pool.nd rfl (Or.inl rfl))) (fun _ _ _ _ _ => pts_nil) (fun _ _ _ _ _ => (pe_op op_add_str (pe_op op_add_str (pe_slice sl_str (pv 2) po_none (po_some (pv 3))) (pe_ix (r := rIxS) ix_str (pe_call0 (ok_letters T) (hr.mono (by decide)) rfl T.d_letters.m T.d_letters.F.kp T.d_letters.b .nil pass0) (pe_op op_mod (pe_op op_add (pv 4) (pv 5)) pe_int) (fun _ _ => rfl))) (pe_slice sl_str (pv 2) (po_some (pv 3)) po_none))))))))), ?_⟩
  refine ⟨⟨_, rfl⟩, _, rfl, b, l, 5, rfl, B, by decide, p200 (by decide), fun r H1 r0 r1 ap1 B1 => ?_⟩
  refine ⟨r, rfl, by omega, by omega, fun D hD => ?_⟩
  refine lc_range (lo := 0) (n := r.toNat) (fun j H' => Bag H' b l ∧ Apart b H1 H' ∧ ∃ cs : List Str, H' D = some (.lst (cs.map V.str)) ∧ (∀ y ∈ cs, Lo y ∧ y.length ≤ 1) ∧ cs.length = j) ⟨B1.new hD _, (Same.new hD _).apart, [], upd_same, fun _ h => (by cases h), rfl⟩ ?_ ?_
  · rintro j H2 hj ⟨B2, ap2, cs, hcs, okc, hcl⟩
    refine ⟨rfl, ⟨_, rfl, rfl, b, l, _, rfl, B2, by decide +kernel, by decide +kernel, fun c H3 hc ap3 B3 => ?_⟩⟩
    have hDb : D ≠ b := B1.ne hD
    refine ⟨cs.map V.str, ap3 _ _ hDb hcs, sl_lt (by rw [List.length_map]; omega), B3.upd hDb (B1.ne2 hD), fun p o np ep => ?_, cs ++ [⟨#[c]⟩], by rw [upd_same, List.map_append]; rfl, fun y hy => ?_, by rw [List.length_append, hcl]; rfl⟩
    · rw [upd_ne (ne_of_none ep hD)]
      exact ap3 _ _ np (ap2 _ _ np ep)
    · rcases List.mem_append.mp hy with z | z
      · exact okc y z
      · rw [List.mem_singleton.mp z]
        exact ⟨Lo.one (letters_lo c hc), Nat.le_refl 1⟩
  rintro H2 ⟨B2, ap2, cs, hcs, okc, hcl⟩
  have e0 : (Str.ofString "").length = 0 := by decide
  have sys := sum_le fun y hy => (okc y hy).2
  have jl : (Txt.join "" cs).length ≤ 4 := by
    have := join_le (a := "") (ys := cs)
    rw [e0] at this
    omega
  have lo : Lo (Txt.join "" cs) := Lo.joined fun y hy => (okc y hy).1
  refine ⟨_, D, cs, rfl, rfl, .inl (SqL.of hcs), by rw [e0]; omega, ?_⟩
  have ap := (ap1.trans ap2)
  clear hcs okc hcl sys e0 ap1 ap2 B1 hD r0 r1
  generalize Txt.join "" cs = stem at *
  clear cs D r H1
  dsimp only [gName]
  refine seq_key (fun σ' H' => Bag H' b l ∧ Apart b H H' ∧ ∃ (u3 u4 u5 : Option V) (z : Str), σ' = [some (.ref b), some (.int 12), some (.str z), u3, u4, u5] ∧ Lo z ∧ z.length ≤ 4) ?_ (fun k => ?_)
  · rintro σ' H3 ⟨B3, ap3, u3, u4, u5, z, rfl, hz, hzl⟩
    refine ⟨_, rfl, _, rfl, z, rfl, sl_small (by omega), _, _, rfl, rfl, b, l, _, rfl, B3, by omega, p200 (by omega), fun a H4 a0 a1 ap4 B4 => ?_⟩
    refine ⟨_, rfl, b, l, 26, rfl, B4, by decide, p200 (by decide), fun f H5 f0 f1 ap5 B5 => ⟨slr rfl, fun l1 hl1 => ?_⟩⟩
    refine ⟨l1, _, rfl, SqT.of upd_same, rfl, _, _, rfl, _, _, rfl, rfl, ?_⟩
    have B6 := B5.new hl1 (.tup [.int a, .int f])
    have ap6 := ((ap3.trans ap4).trans ap5).trans (Same.new hl1 (.tup [.int a, .int f])).apart
    generalize upd H5 l1 (.tup [.int a, .int f]) = H6 at B6 ap6
    clear B3 ap3 B4 ap4 B5 ap5 hl1
    refine ⟨_, rfl, 12, rfl, by decide, by decide, fun D hD => ?_⟩
    refine lc_range (lo := 0) (n := 12) (fun j H' => Same H6 H' ∧ H' D = some (.lst ((poolL (cutS z none (some a)) (cutS z (some a) none) f.toNat j).map V.str))) ⟨Same.new hD _, upd_same⟩ ?_ ?_
    · rintro j H7 hj ⟨e7, h7⟩
      have c1 := cutS_length z none (some a)
      have c2 := cutS_length z (some a) none
      have hm : (f + (0 + (j : Int))) % 26 = (((f.toNat + j) % 26 : Nat) : Int) := by omega
      have hat : atI letS.cps.toList ((f + (0 + (j : Int))) % 26) = some (97 + (f.toNat + j) % 26) := by
        rw [hm]
        exact atI_nat (letters_at _ (by omega))
      have s1 : (⟨#[97 + (f.toNat + j) % 26]⟩ : Str).length = 1 := rfl
      refine ⟨rfl, ⟨_, rfl, _, rfl, _, rfl, z, rfl, sl_small (by omega), rfl, _, rfl, _, rfl, _, _, rfl, rfl, _, _, rfl, rfl, (show (0 : Int) < 26 by decide), letS, _, _, rfl, rfl, slr (by decide +kernel), hat, _, _, rfl, rfl, sl_small (by omega), _, rfl, _, rfl, _, rfl, z, rfl, sl_small (by omega), _, _, rfl, rfl, sl_small (by rw [show ∀ a b : Str, (a ++ b).length = a.length + b.length from fun a b => Array.size_append ..]; omega), ?_⟩⟩
      refine ⟨_, h7, sl_lt (by rw [List.length_map]; unfold poolL; rw [List.length_map, List.length_range]; omega), e7.set hD _, ?_⟩
      rw [upd_same, pool_snoc, List.map_append]
      rfl
    · rintro H7 ⟨e7, h7⟩
      have c1 := cutS_length z none (some a)
      have c2 := cutS_length z (some a) none
      have hin : ∀ y ∈ poolL (cutS z none (some a)) (cutS z (some a) none) f.toNat 12, ∃ c < 123, y = nmOf (cutS z none (some a)) (cutS z (some a) none) c := fun y hy => by
        obtain ⟨j, _, rfl⟩ := List.mem_map.mp hy
        exact ⟨_, by omega, rfl⟩
      refine q D H7 _ ((cutS z none (some a)).length + 1 + (cutS z (some a) none).length) ⟨?_, pool_nodup (by decide), fun y hy => ?_⟩ (fun y hy => ?_) (ap6.trans e7.apart) (B6.same e7) (none_back B6 ap6 hD) h7
      · unfold poolL
        rw [List.length_map, List.length_range]
      · obtain ⟨c, hc, rfl⟩ := hin y hy
        exact ⟨by rw [nmOf_len]; omega, (((hz.cut _ _).app (Lo.one hc)).app (hz.cut _ _)).ok⟩
      · obtain ⟨c, hc, rfl⟩ := hin y hy
        exact nmOf_len
  · refine ⟨_, rfl, b, l, 2, rfl, B2, by decide, p200 (by decide), fun r2 H3 _ _ ap3 B3 => ⟨rfl, _, rfl, ?_⟩⟩
    refine ite2 (fun _ => ?_) (fun _ => k _ _ ⟨B3, ap.trans ap3, _, _, _, _, rfl, lo, jl⟩)
    have c1 : (cutS stem none (some 1)).length ≤ 1 := by
      show (((stem.cps.toList.drop _).take _).toArray).size ≤ 1
      rw [List.size_toArray, List.length_take]
      have : HT.sIx stem.length stem.length (some 1) ≤ 1 := by
        rw [show (1 : Int) = ((1 : Nat) : Int) from rfl, HT.sIx_nat]
        omega
      omega
    have c4 := cutS_length stem none (some 1)
    refine ⟨_, rfl, _, rfl, stem, rfl, sl_small (by omega), ?_⟩
    refine ⟨_, rfl, stem, rfl, sl_small (by omega), _, _, rfl, rfl, ?_, ?_⟩
    · exact PyProof.Rows.mulOk_of 1 4 c1 (by omega) (by omega) (by decide) (by decide)
    · refine k _ _ ⟨B3, ap.trans ap3, _, _, _, _, rfl, (lo.cut _ _).mul c1, ?_⟩
      have := PyProof.Rows.len_mul_leN (L := 1) (N := 4) c1 (n := ((stem.length : Nat) : Int)) (by omega)
      omega
theorem ok_pieces (T : Txt K mg A) : FnOk P w K mg base CX0 4 A.f_pieces A.fd_pieces ["_law_bag_here"] spPieces := by
  refine T.d_pieces.F.ok sc_pieces (fun vs H Q E h => ?_) (fun cdv ar outer s H vs Q E hr h => ?_)
  · obtain ⟨b, l, rfl, _⟩ := h
    rfl
  obtain ⟨b, l, rfl, B, q⟩ := h
  refine ⟨_, (pss_one (ps_ret (pe_lc (own := [("_law_name", 1)]) (g := gName 1) (tt := tYes) rfl sc_pieces.nd (pi_list (pe_call (ok_pool T) (hr.mono (by decide)) rfl T.d_pool.m T.d_pool.F.kp T.d_pool.b .nil pass0 (pa_cons (pv 0) (pa_cons pe_int pa_nil)))) (blkOk_by (own := [("_law_name", 1)]) (N := ["_law_bag_here", "_law_name"]) (sc := defScope s_pieces) (by decide +kernel)) (fun _ _ _ _ _ => (pg_name (i := 1) sc_pieces.nd rfl (Or.inl rfl))) (fun _ _ _ _ _ => pts_nil) (fun _ _ _ _ _ => (pe_ifExp (pt_cmpR op_ne (pv 1) pe_str (nomark _)) (pv 1) pe_str))))), ?_⟩
  refine ⟨_, rfl, b, l, rfl, B, fun p H1 ps m ok hm ap1 B1 hp h1 => ⟨p, rfl, ⟨_, SqL.of h1⟩, fun D hD => ?_⟩⟩
  refine lc_list (xs := ps.map V.str) (fun i H' => Same H1 H' ∧ H' D = some (.lst (((ps.take i).map unwhole).map V.str))) ⟨Same.new hD _, upd_same⟩ (fun i H' _ h => SqL.of (h.1 _ _ h1)) ?_ ?_
  · rintro i v H' hi ⟨e, hD'⟩
    obtain ⟨u, rfl, hu⟩ := str_at hi
    have ht : ps.take (i + 1) = ps.take i ++ [u] := RM.take_succ hu
    refine ⟨rfl, ⟨_, rfl, rfl, _, rfl, ?_⟩⟩
    have hsl : ((List.take i ps).map unwhole).length < sizeLine := by
      refine sl_lt ?_
      rw [List.length_map, List.length_take]
      have := ok.len
      omega
    show if (!decide (V.str u = V.str (Str.ofString "whole"))) = true then _ else _
    by_cases hw : u = Str.ofString "whole"
    · rw [decide_eq_true (by rw [hw])]
      refine iteF ⟨_, hD', by rw [List.length_map]; exact hsl, e.set hD _, ?_⟩
      rw [upd_same, ht, List.map_append, List.map_append]
      show _ = some (HO.lst (_ ++ [V.str (unwhole u)]))
      unfold Toy.unwhole
      rw [if_pos hw]
    · rw [decide_eq_false (fun z => hw (by injection z))]
      refine iteT ⟨_, rfl, _, hD', by rw [List.length_map]; exact hsl, e.set hD _, ?_⟩
      rw [upd_same, ht, List.map_append, List.map_append]
      show _ = some (HO.lst (_ ++ [V.str (unwhole u)]))
      unfold Toy.unwhole
      rw [if_neg hw]
  · rintro H' ⟨e, hD'⟩
    rw [List.length_map, List.take_length] at hD'
    exact q D H' _ (ok.unwhole hm) (ap1.trans e.apart) (B1.same e) (none_back B1 ap1 hD) hD'
end

-- CUT4
/-! ## The law's draws of statements -/
/-- rows of a name and two numbers -/
def IsRow (H : Hp) (v : V) : Prop := ∃ p u a c, v = .ref p ∧ H p = some (.tup [.str u, .int a, .int c])
theorem IsRow.keep {H H' : Hp} {v : V} (h : IsRow H v) (e : KeepT H H') : IsRow H' v := by
  obtain ⟨p, u, a, c, h1, h2⟩ := h
  exact ⟨p, u, a, c, h1, e _ _ h2⟩
theorem IsAll.one {H : Hp} {s : Stm} {v : V} (h : IsS H s v) : IsAll H [s] [v] := ⟨v, [], rfl, h, rfl⟩
theorem strs_ne {l : Addr} {i c s t : Int} {ns : List Str} : HO.lst (ns.map V.str) ≠ HO.lst (bagL l i c s t) := by
  intro e
  injection e with e
  cases ns with
  | nil => cases e
  | cons _ _ => cases e
theorem Bag.ns {H : Hp} {b l p : Addr} {xs : List Str} (x : Bag H b l) (h : H p = some (.lst (xs.map V.str))) : p ≠ b := by
  obtain ⟨ns, i, c, s, t, h1, h2, _⟩ := x.ex
  exact ne_of h h1 strs_ne
def spEnds : Sp := fun vs H Q _ => ∃ (b l pr : Addr) (m : Int) (qs : List Str), vs = [.ref b, .int m, .ref pr] ∧ Bag H b l ∧ 0 < m ∧ m ≤ 1000 ∧ H pr = some (.lst (qs.map V.str)) ∧ qs.length ≤ 100 ∧ ∀ (t : Addr) (H' : Hp) (ss : List Stm), IsLs H' ss t → depL ss = 0 → wtL ss = 0 → ss.length ≤ 100 → Apart b H H' → Bag H' b l → Q (.ref t) H'
section
variable {P : Program} {w : World} {K : PySem.W.Frag} {mg : Str → Option Value} {base : Heap} {A : Ad}
theorem ok_ends (T : Txt K mg A) : FnOk P w K mg base CX0 3 A.f_ends A.fd_ends ["_law_bag_here", "_law_players", "_law_present"] spEnds := by
  refine T.d_ends.F.ok sc_ends (fun vs H Q E h => ?_) (fun cdv ar outer s H vs Q E hr h => ?_)
  · obtain ⟨b, l, pr, m, qs, rfl, _⟩ := h
    rfl
  obtain ⟨b, l, pr, m, qs, rfl, B, m0, m1, hpr, hl, q⟩ := h
  refine ⟨_, (pss_cons (ps_setLc (i := 3) (own := [("_law_name", 4)]) (g := gName 4) (tt := tYes) rfl sc_ends.nd rfl rfl (sw_true rfl rfl rfl (by decide +kernel)) (pi_list (pv 2)) (blkOk_by (own := [("_law_name", 4)]) (N := ["_law_bag_here", "_law_players", "_law_present", "_law_some", "_law_name", "_law_way", "_law_player"]) (sc := defScope s_ends) (by decide +kernel)) (fun _ _ _ _ _ => (pg_name (i := 4) sc_ends.nd rfl (Or.inl rfl))) (fun _ _ _ _ _ => pts_nil) (fun _ _ _ _ _ => (pe_tup (pa_cons (pv 4) (pa_cons (pe_call (ok_pull T) (hr.mono (by decide)) rfl T.d_pull.m T.d_pull.F.kp T.d_pull.b .nil pass0 (pa_cons (pv 0) (pa_cons pe_int pa_nil))) (pa_cons (pe_op op_add pe_int (pe_call (ok_pull T) (hr.mono (by decide)) rfl T.d_pull.m T.d_pull.F.kp T.d_pull.b .nil pass0 (pa_cons (pv 0) (pa_cons (pv 1) pa_nil)))) pa_nil))))))
    (pss_one (ps_ret (pe_callTy (r := rTupK K) call_tuple_of (by rfl) T.tuple (by decide +kernel) (pa_cons (pe_lc (own := [("_law_name", 4), ("_law_way", 5), ("_law_player", 6)]) (g := gTup K 3 (gCons (gName 4) (gCons (gName 5) (gCons (gName 6) gNil)))) rfl sc_ends.nd (pi_list (pv 3)) (blkOk_by (own := [("_law_name", 4), ("_law_way", 5), ("_law_player", 6)]) (N := ["_law_bag_here", "_law_players", "_law_present", "_law_some", "_law_name", "_law_way", "_law_player"]) (sc := defScope s_ends) (by decide +kernel)) (fun _ _ _ _ _ => (pg_tup rfl (pgs_cons (pg_name (i := 4) sc_ends.nd rfl (Or.inl rfl)) (pgs_cons (pg_name (i := 5) sc_ends.nd rfl (Or.inl rfl)) (pgs_cons (pg_name (i := 6) sc_ends.nd rfl (Or.inl rfl)) pgs_nil))))) (fun _ _ _ _ _ => (pts_one (pt_cmpR op_lt (pv 5) pe_int (nomark _)))) (fun _ _ _ _ _ => (pe_ifExp (pt_cmpR op_lt (pv 5) pe_int (nomark _)) (pe_tup (pa_cons pe_str (pa_cons (pv 4) (pa_cons (pv 6) pa_nil)))) (pe_tup (pa_cons pe_str (pa_cons (pv 4) pa_nil)))))) pa_nil))))), ?_⟩
  refine ⟨_, rfl, pr, rfl, ⟨_, SqL.of hpr⟩, fun D hD => ?_⟩
  refine lc_list (xs := qs.map V.str) (fun i H' => Apart b H H' ∧ Bag H' b l ∧ ∃ rs : List V, H' D = some (.lst rs) ∧ (∀ v ∈ rs, IsRow H' v) ∧ rs.length = i) ⟨(Same.new hD _).apart, B.new hD _, [], upd_same, fun _ h => (by cases h), rfl⟩ (fun i H' _ h => SqL.of (h.1 _ _ (B.ns hpr) hpr)) ?_ ?_
  · rintro i v H1 hi ⟨ap1, B1, rs, hrs, hrow, hrl⟩
    obtain ⟨u, rfl, hu⟩ := str_at hi
    have hDb : D ≠ b := B.ne hD
    refine ⟨rfl, ⟨_, rfl, _, rfl, b, l, 8, rfl, B1, by decide, p200 (by decide), fun r1 H2 r10 r11 ap2 B2 => ⟨_, rfl, _, rfl, b, l, m, rfl, B2, m0, p200 (by omega), fun r2 H3 r20 r21 ap3 B3 => ⟨_, _, rfl, rfl, slr rfl, fun p hp => ?_⟩⟩⟩⟩
    have hD3 := ap3 _ _ hDb (ap2 _ _ hDb hrs)
    have e3 := Same.new hp (.tup [.str u, .int r1, .int (1 + r2)])
    have hD4 := e3 _ _ hD3
    have kt := (((ap2.kt B1).trans (ap3.kt B2)).trans e3.kt).trans (kt_list (o := .lst (rs ++ [.ref p])) hD4)
    have hi2 : i < qs.length := by
      have := (List.getElem?_eq_some_iff.mp hu).1
      omega
    refine ⟨rs, hD4, sl_lt (by omega), fun x o nx ex => ?_, (B3.new hp _).upd hDb (B.ne2 hD), rs ++ [.ref p], upd_same, fun y hy => ?_, by rw [List.length_append, hrl]; rfl⟩
    · rw [upd_ne (ne_of_none ex hD)]
      exact e3 _ _ (ap3 _ _ nx (ap2 _ _ nx (ap1 _ _ nx ex)))
    · rcases List.mem_append.mp hy with z | z
      · exact (hrow y z).keep kt
      · rw [List.mem_singleton.mp z]
        exact ⟨p, u, r1, 1 + r2, rfl, kt_list hD4 _ _ upd_same⟩
  · rintro H1 ⟨ap1, B1, rs, hrs, hrow, hrl⟩
    rw [List.length_map] at hrl
    refine ⟨_, rfl, D, rfl, ⟨_, SqL.of hrs⟩, fun D2 hD2 => ?_⟩
    refine lc_list (xs := rs) (fun i H' => Same H1 H' ∧ ∃ (us : List V) (ss : List Stm), H' D2 = some (.lst us) ∧ IsAll H' ss us ∧ depL ss = 0 ∧ wtL ss = 0 ∧ us.length ≤ i) ⟨Same.new hD2 _, [], [], upd_same, rfl, rfl, rfl, Nat.le_refl _⟩ (fun i H' _ h => SqL.of (h.1 _ _ hrs)) ?_ ?_
    · rintro i v H2 hi ⟨e2, us, ss, hus, hA, hd, hw, hul⟩
      obtain ⟨p, u, a, c, rfl, hp⟩ := hrow v (List.mem_of_getElem? hi)
      have hi2 := (List.getElem?_eq_some_iff.mp hi).1
      refine ⟨p, _, rfl, SqT.of (e2 _ _ hp), rfl, _, _, rfl, _, _, rfl, _, _, rfl, rfl, ?_⟩
      refine ⟨rfl, _, rfl, _, _, rfl, rfl, _, rfl, ?_⟩
      refine ite2 (fun _ => ?_) (fun _ => ⟨e2, us, ss, hus, hA, hd, hw, by omega⟩)
      refine ⟨_, rfl, _, _, rfl, rfl, _, rfl, ?_⟩
      refine ite2 (fun _ => ?_) (fun _ => ?_)
      · refine ⟨_, rfl, _, rfl, slr rfl, fun t ht => ?_⟩
        have h1 := Same.new ht (.tup [.str "give", .str u, .int c]) _ _ hus
        have kt := kt_list (o := .lst (us ++ [.ref t])) h1
        refine ⟨us, h1, sl_lt (by omega), (e2.trans (Same.new ht _)).set hD2 _, us ++ [.ref t], ss ++ [.give u c], upd_same, ?_, by rw [dep_app, hd]; rfl, by rw [wt_app, hw]; rfl, by rw [List.length_append]; show us.length + 1 ≤ _; omega⟩
        exact (hA.keep ((Same.new ht _).kt.trans kt)).app (IsAll.one ⟨t, rfl, kt _ _ upd_same⟩)
      · refine ⟨_, rfl, slr rfl, fun t ht => ?_⟩
        have h1 := Same.new ht (.tup [.str "drop", .str u]) _ _ hus
        have kt := kt_list (o := .lst (us ++ [.ref t])) h1
        refine ⟨us, h1, sl_lt (by omega), (e2.trans (Same.new ht _)).set hD2 _, us ++ [.ref t], ss ++ [.drop u], upd_same, ?_, by rw [dep_app, hd]; rfl, by rw [wt_app, hw]; rfl, by rw [List.length_append]; show us.length + 1 ≤ _; omega⟩
        exact (hA.keep ((Same.new ht _).kt.trans kt)).app (IsAll.one ⟨t, rfl, kt _ _ upd_same⟩)
    · rintro H2 ⟨e2, us, ss, hus, hA, hd, hw, hul⟩
      refine ⟨D2, us, rfl, .inl ⟨SqL.of hus, fun t ht => ?_⟩⟩
      exact q t _ ss ⟨us, upd_same, hA.keep (Same.new ht _).kt⟩ hd hw (by rw [hA.len]; omega) (ap1.trans (e2.apart.trans (Same.new ht _).apart)) ((B1.same e2).new ht _)
end

-- CUT5
/-! ## The law's drawn statements -/
theorem cut_take (xs : List Str) (k : Nat) : cutV (xs.map V.str) none (some ((k : Nat) : Int)) = (xs.take k).map V.str := by
  unfold cutV
  rw [HT.sIx_nat, HT.sIx_none, List.length_map, List.drop_zero, Nat.sub_zero, ← List.map_take]
  congr 1
  rcases Nat.le_total k xs.length with h | h
  · rw [Nat.min_eq_left h]
  · rw [Nat.min_eq_right h, List.take_length, List.take_of_length_le h]
theorem left_len {sh qs : List Str} (h : sh.Perm qs) (k : Nat) : (qs.filter fun x => !decide (x ∈ sh.take k)).length + (sh.take k).length ≤ qs.length := by
  have h1 := (h.filter fun x => !decide (x ∈ sh.take k)).length_eq
  rw [← h1, ← h.length_eq]
  have h2 : (sh.filter fun x => !decide (x ∈ sh.take k)).length ≤ (sh.drop k).length := by
    conv => lhs; rw [← List.take_append_drop k sh]
    rw [List.filter_append, List.length_append]
    have e : ((sh.take k).filter fun x => !decide (x ∈ List.take k (List.take k sh ++ List.drop k sh))) = [] := by
      rw [List.take_append_drop]
      exact List.filter_eq_nil_iff.mpr fun x hx => by simp [hx]
    rw [e]
    have := List.length_filter_le (fun x => !decide (x ∈ List.take k (List.take k sh ++ List.drop k sh))) (sh.drop k)
    simpa using this
  rw [List.length_drop] at h2
  rw [List.length_take]
  omega
theorem dp_strs {K : PySem.W.Frag} {H : Hp} : ∀ qs : List Str, DpAll K H (qs.map V.str) (qs.map PyData.str)
  | [] => .nil
  | q :: r => .cons (.str q) (dp_strs r)
theorem lay_strs : ∀ {qs : List Str}, NmL qs → PyData.canLayAll0 (qs.map PyData.str) = true
  | [], _ => rfl
  | q :: r, h => by
    show (PyData.canLay0 (.str q) && _) = true
    rw [lay_strs (qs := r) fun x hx => h x (List.mem_cons_of_mem _ hx)]
    show (PyData.strOk q && true) = true
    rw [(h q List.mem_cons_self).2]
    rfl
theorem dep_strs : ∀ qs : List Str, PyData.depthAll (qs.map PyData.str) = 0
  | [] => rfl
  | q :: r => by
    show max (PyData.depth (.str q)) (PyData.depthAll (r.map PyData.str)) = 0
    rw [dep_strs r]
    rfl
theorem shaped_strs {qs : List Str} (h : NmL qs) : SeqAt.shaped (.list (qs.map PyData.str)) = true := by
  unfold SeqAt.shaped
  have h1 : PyData.canLay0 (.list (qs.map PyData.str)) = true := lay_strs h
  have h2 : PyData.depth (.list (qs.map PyData.str)) = 0 + 1 := congrArg (· + 1) (dep_strs qs)
  rw [h1, h2]
  rfl
theorem eq_nil {qs : List Str} : PyData.eqv (.list (qs.map PyData.str)) (.list []) = decide (qs = []) := by
  cases qs <;> rfl
/-- what the drawn statements are drawn from -/
structure LE (H : Hp) (b l po pr : Addr) (ps qs : List Str) : Prop where
  bag : Bag H b l
  po : H po = some (.lst (ps.map V.str))
  pr : H pr = some (.lst (qs.map V.str))
  ok : PoolOk ps
  nm : NmL qs
theorem _root_.Toy.Bag.st {H H' : Hp} {b l p : Addr} {xs : List Str} (B : Bag H b l) (ap : Apart b H H') (h : H p = some (.lst (xs.map V.str))) : H' p = some (.lst (xs.map V.str)) := ap _ _ (B.ns h) h
theorem LE.go {H H' : Hp} {b l po pr : Addr} {ps qs : List Str} (e : LE H b l po pr ps qs) (ap : Apart b H H') (B : Bag H' b l) : LE H' b l po pr ps qs := ⟨B, e.bag.st ap e.po, e.bag.st ap e.pr, e.ok, e.nm⟩
def Res (b l : Addr) (Q : VK) (r : Nat) (H : Hp) : Prop := ∀ (t : Addr) (H' : Hp) (ss : List Stm), IsLs H' ss t → depL ss ≤ r → wtL ss + 4 ≤ 4 * 2 ^ r → ss.length ≤ 100 + r → Apart b H H' → Bag H' b l → Q (.ref t) H'
theorem Res.go {b l : Addr} {Q : VK} {r : Nat} {H H' : Hp} (q : Res b l Q r H) (ap : Apart b H H') : Res b l Q r H' := fun t H2 ss h1 h2 h3 h4 a B => q t H2 ss h1 h2 h3 h4 (ap.trans a) B
def spLines (r : Nat) : Sp := fun vs H Q _ => ∃ (b l po pr : Addr) (m room wide : Int) (ps qs : List Str), vs = [.ref b, .int m, .ref po, .ref pr, .int room, .int wide] ∧ LE H b l po pr ps qs ∧ (0 < m ∧ m ≤ 5) ∧ qs.length + r ≤ 8 ∧ room ≤ r ∧ (0 ≤ wide ∧ wide ≤ 7) ∧ Res b l Q r H
def spAsk (r : Nat) : Sp := fun vs H Q _ => ∃ (b l po pr : Addr) (m room wide : Int) (ps qs : List Str), vs = [.ref b, .int m, .ref po, .ref pr, .int room, .int wide] ∧ LE H b l po pr ps qs ∧ (0 < m ∧ m ≤ 5) ∧ qs.length + r ≤ 8 ∧ room ≤ r ∧ (0 ≤ wide ∧ wide ≤ 7) ∧ Res b l Q r H ∧ 1 ≤ r ∧ qs ≠ []
theorem cat_ls {K : PySem.W.Frag} {H : Hp} {Q : VK} {a t : Addr} {s : Stm} {v : V} {ss : List Stm} (ha : H a = some (.tup [v])) (hs : IsS H s v) (ht : IsLs H ss t) (hl : ss.length ≤ 1000) (q : ∀ t' H', IsLs H' (s :: ss) t' → Same H H' → Q (.ref t') H') : rCatT K (.ref a) (.ref t) H Q := by
  obtain ⟨us, h1, h2⟩ := ht
  have hl2 := h2.len
  refine ⟨a, t, [v], us, rfl, rfl, SqT.of ha, SqT.of h1, by simp, sl_small (by show 1 + us.length ≤ 100000; omega), fun e => ?_, fun _ p hp => ?_⟩
  · subst e
    cases ss with
    | nil => exact q a H ⟨[v], ha, IsAll.one hs⟩ (Same.refl H)
    | cons _ _ => cases hl2
  · have kt := (Same.new hp (.tup ([v] ++ us))).kt
    exact q p _ ⟨[v] ++ us, upd_same, (IsAll.one (hs.keep kt)).app (h2.keep kt)⟩ (Same.new hp _)
theorem pow_one {r : Nat} (h : 1 ≤ r) : 2 ^ r = 2 * 2 ^ (r - 1) ∧ 1 ≤ 2 ^ (r - 1) := by
  refine ⟨?_, Nat.pow_pos (by decide)⟩
  conv => lhs; rw [show r = (r - 1) + 1 by omega]
  rw [Nat.pow_succ]
  omega
section
variable {P : Program} {w : World} {K : PySem.W.Frag} {mg : Str → Option Value} {base : Heap} {A : Ad}
theorem ok_ask (T : Txt K mg A) (r kk : Nat) (hk : 3 ≤ kk) (G : FnOk P w K mg base CX0 kk A.f_lines A.fd_lines ["_law_bag_here", "_law_players", "_law_pool_here", "_law_present", "_law_room", "_law_wide"] (fun vs H Q E => ∃ m, r = m + 1 ∧ spLines m vs H Q E)) : FnOk P w K mg base CX0 (kk + 1) A.f_ask A.fd_ask ["_law_bag_here", "_law_players", "_law_pool_here", "_law_present", "_law_room", "_law_wide"] (spAsk r) := by
  refine T.d_ask.F.ok sc_ask (fun vs H Q E h => ?_) (fun cdv ar outer s H vs Q E hr h => ?_)
  · obtain ⟨b, l, po, pr, m, room, wide, ps, qs, rfl, _⟩ := h
    rfl
  obtain ⟨b, l, po, pr, m, room, wide, ps, qs, rfl, E0, ⟨m0, m5⟩, hq8, hroom, ⟨w0, w7⟩, q, hr1, hne⟩ := h
  have hql : 0 < qs.length := List.length_pos_iff.mpr hne
  refine ⟨_, (pss_cons (ps_par (i := 6) (j := 7) (by rfl) sc_ask.nd rfl rfl (by decide) rfl rfl (pa_cons (pe_call (ok_of T) (hr.mono (by omega)) rfl T.d_of.m T.d_of.F.kp T.d_of.b .nil pass0 (pa_cons (pv 0) (pa_cons (pv 3) pa_nil))) (pa_cons (pe_call (ok_of T) (hr.mono (by omega)) rfl T.d_of.m T.d_of.F.kp T.d_of.b .nil pass0 (pa_cons (pv 0) (pa_cons (pv 3) pa_nil))) pa_nil)) (by rfl))
    (pss_cons (ps_set (i := 8) sc_ask.nd rfl (Or.inl rfl) (pe_call (ok_of T) (hr.mono (by omega)) rfl T.d_of.m T.d_of.F.kp T.d_of.b .nil pass0 (pa_cons (pv 0) (pa_cons (pe_lst (pa_cons (pe_call (ok_share T) (hr.mono (by omega)) rfl T.d_share.m T.d_share.F.kp T.d_share.b .nil pass0 (pa_cons (pv 0) pa_nil)) (pa_cons (pe_tup (pa_cons pe_int (pa_cons pe_int pa_nil))) (pa_cons (pe_tup (pa_cons (pe_op op_add pe_int (pe_call (ok_pull T) (hr.mono (by omega)) rfl T.d_pull.m T.d_pull.F.kp T.d_pull.b .nil pass0 (pa_cons (pv 0) (pa_cons pe_int pa_nil)))) (pa_cons pe_int pa_nil))) pa_nil)))) pa_nil))))
    (pss_cons (ps_setLc (i := 9) (own := [("_law_k", 10)]) (g := gName 10) (tt := tYes) rfl sc_ask.nd rfl rfl (sw_true rfl rfl rfl (by decide +kernel)) (pi_range1 rfl T.range (pa_cons pe_int pa_nil)) (blkOk_by (own := [("_law_k", 10)]) (N := ["_law_bag_here", "_law_players", "_law_pool_here", "_law_present", "_law_room", "_law_wide", "_law_one", "_law_two", "_law_part", "_law_sides", "_law_k"]) (sc := defScope s_ask) (by decide +kernel)) (fun _ _ _ _ _ => (pg_name (i := 10) sc_ask.nd rfl (Or.inl rfl))) (fun _ _ _ _ _ => pts_nil) (fun _ _ _ _ _ => (pe_call G (hr.mono (by omega)) rfl T.d_lines.m T.d_lines.F.kp T.d_lines.b .nil pass0 (pa_cons (pv 0) (pa_cons (pv 1) (pa_cons (pv 2) (pa_cons (pv 3) (pa_cons (pe_op op_sub (pv 4) pe_int) (pa_cons (pe_op op_fdiv (pv 5) pe_int) pa_nil)))))))))
    (pss_one (ps_ret (pe_tup (pa_cons (pe_tup (pa_cons pe_str (pa_cons (pe_op op_add pe_int (pe_call (ok_pull T) (hr.mono (by omega)) rfl T.d_pull.m T.d_pull.F.kp T.d_pull.b .nil pass0 (pa_cons (pv 0) (pa_cons (pv 1) pa_nil)))) (pa_cons (pv 6) (pa_cons (pv 8) (pa_cons (pv 7) (pa_cons (pe_ix (r := rIxL K) ix_list (pv 9) pe_int (fun _ _ => rfl)) (pa_cons (pe_ix (r := rIxL K) ix_list (pv 9) pe_int (fun _ _ => rfl)) pa_nil)))))))) pa_nil))))))), ?_⟩
  refine ⟨_, rfl, _, rfl, b, l, pr, _, rfl, E0.bag, SqL.of E0.pr, E0.bag.ns E0.pr, by rw [List.length_map]; exact hql, by rw [List.length_map]; omega, fun i1 v1 H1 hv1 ap1 B1 => ?_⟩
  have E1 := E0.go ap1 B1
  have q1 := q.go ap1
  obtain ⟨s1, rfl, _⟩ := str_at hv1
  refine ⟨_, rfl, _, rfl, b, l, pr, _, rfl, E1.bag, SqL.of E1.pr, E1.bag.ns E1.pr, by rw [List.length_map]; exact hql, by rw [List.length_map]; omega, fun i2 v2 H2 hv2 ap2 B2 => ?_⟩
  have E2 := E1.go ap2 B2
  have q2 := q1.go ap2
  obtain ⟨s2, rfl, _⟩ := str_at hv2
  refine ⟨_, _, rfl, ?_⟩
  clear E0 E1 q q1 ap1 ap2 B1 hv1 hv2
  refine ⟨_, rfl, _, rfl, b, l, rfl, E2.bag, fun v3 x3 H3 hx3 ap3 B3 => ?_⟩
  have E3 := E2.go ap3 B3
  have q3 := q2.go ap3
  refine ⟨slr rfl, fun p4 hp4 => ?_⟩
  have e4 := Same.new hp4 (.tup [.int 1, .int 1])
  have E4 := E3.go e4.apart (B3.same e4)
  have q4 := q3.go e4.apart
  have hx4 := hx3.mono e4
  have hy4 : IsR (upd H3 p4 (.tup [.int 1, .int 1])) (.ref p4) 1 := ⟨p4, rfl, upd_same⟩
  generalize upd H3 p4 (.tup [.int 1, .int 1]) = H4 at *
  refine ⟨_, rfl, b, l, 9, rfl, E4.bag, by decide, p200 (by decide), fun r5 H5 r50 r51 ap5 B5 => ⟨_, _, rfl, rfl, slr rfl, fun p6 hp6 => ?_⟩⟩
  have E5 := E4.go ap5 B5
  have q5 := q4.go ap5
  have hx5 := hx4.keep (ap5.kt E4.bag)
  have hy5 := hy4.keep (ap5.kt E4.bag)
  have e6 := Same.new hp6 (.tup [.int (1 + r5), .int 1])
  have E6 := E5.go e6.apart (B5.same e6)
  have q6 := q5.go e6.apart
  have hx6 := hx5.mono e6
  have hy6 := hy5.mono e6
  have hz6 : IsR (upd H5 p6 (.tup [.int (1 + r5), .int 1])) (.ref p6) ((1 + r5 : Int) : Rat) := ⟨p6, rfl, upd_same⟩
  refine ⟨slr rfl, fun p7 hp7 => ?_⟩
  refine ⟨b, l, p7, _, rfl, E6.bag.new hp7 _, SqL.of upd_same, E6.bag.ne hp7, by show 0 < 3; decide, by show 3 ≤ 1000; decide, fun i8 v8 H8 hv8 ap8 B8 => ?_⟩
  have ap78 := (Same.new hp7 (.lst [v3, .ref p4, .ref p6])).apart.trans ap8
  have E8 := E6.go ap78 B8
  have q8 := q6.go ap78
  have hs8 : ∃ x : Rat, IsR H8 v8 x := by
    have kt := ap78.kt E6.bag
    match i8, hv8 with
    | 0, hv => cases hv; exact ⟨_, hx6.keep kt⟩
    | 1, hv => cases hv; exact ⟨_, hy6.keep kt⟩
    | 2, hv => cases hv; exact ⟨_, hz6.keep kt⟩
  obtain ⟨x8, hx8⟩ := hs8
  clear hx6 hy6 hz6 hx5 hy5 hx4 hy4 hx3 E2 E3 E4 E5 E6 q2 q3 q4 q5 q6 ap78 ap8 hv8 ap3 ap5 e4 e6 hp4 hp6 hp7 B2 B3 B5
  refine ⟨_, rfl, by decide, by decide, fun D hD => ?_⟩
  have hDb := E8.bag.ne hD
  refine lc_range (lo := 0) (n := 2) (fun j H' => Bag H' b l ∧ Apart b H8 H' ∧ ∃ us : List V, H' D = some (.lst us) ∧ us.length = j ∧ ∀ v ∈ us, ∃ t ss, v = .ref t ∧ IsLs H' ss t ∧ depL ss ≤ r - 1 ∧ wtL ss + 4 ≤ 4 * 2 ^ (r - 1)) ⟨B8.new hD _, (Same.new hD _).apart, [], upd_same, rfl, fun _ h => (by cases h)⟩ ?_ ?_
  · rintro j H9 hj ⟨B9, ap9, us, hus, hul, hall⟩
    have E9 := E8.go ap9 B9
    refine ⟨rfl, ⟨_, rfl, _, rfl, _, rfl, _, rfl, _, rfl, _, _, rfl, rfl, _, rfl, _, _, rfl, rfl, ⟨by decide, by decide⟩, r - 1, by omega, b, l, po, pr, m, _, _, ps, qs, rfl, E9, ⟨m0, m5⟩, by omega, by show room - 1 ≤ _; omega, ⟨by show 0 ≤ wide / 2; omega, by show wide / 2 ≤ 7; omega⟩, fun t H10 ss hs d1 w1 l1 ap10 B10 => ?_⟩⟩
    have h10 := ap10 _ _ hDb hus
    have kt := (ap10.kt B9).trans (kt_list (o := .lst (us ++ [.ref t])) h10)
    refine ⟨us, h10, sl_lt (by omega), B10.upd hDb (E8.bag.ne2 hD), fun x o nx ex => ?_, us ++ [.ref t], upd_same, by rw [List.length_append, hul]; rfl, fun y hy => ?_⟩
    · rw [upd_ne (ne_of_none ex hD)]
      exact ap10 _ _ nx (ap9 _ _ nx ex)
    · rcases List.mem_append.mp hy with z | z
      · obtain ⟨t', ss', rfl, h1, h2, h3⟩ := hall y z
        exact ⟨t', ss', rfl, h1.keep kt, h2, h3⟩
      · rw [List.mem_singleton.mp z]
        exact ⟨t, ss, rfl, hs.keep (kt_list h10), d1, w1⟩
  · rintro H9 ⟨B9, ap9, us, hus, hul, hall⟩
    match us, hul with
    | [u1, u2], _ =>
      obtain ⟨t1, ss1, rfl, hs1, d1, w1⟩ := hall u1 (by simp)
      obtain ⟨t2, ss2, rfl, hs2, d2, w2⟩ := hall u2 (by simp)
      refine ⟨_, rfl, _, rfl, b, l, m, rfl, B9, m0, p200 (by omega), fun r10 H10 r100 r101 ap10 B10 => ?_⟩
      have hus10 := ap10 _ _ hDb hus
      refine ⟨_, _, rfl, rfl, _, rfl, _, rfl, _, rfl, _, rfl, D, _, _, _, rfl, rfl, SqL.of hus10, at_of (j := 0) rfl rfl, _, rfl, D, _, _, _, rfl, rfl, SqL.of hus10, at_of (j := 1) rfl rfl, slr rfl, fun p hp => ⟨slr rfl, fun a ha => ?_⟩⟩
      have ea := (Same.new hp (.tup [.str "ask", .int (1 + r10), .str s1, v8, .str s2, .ref t1, .ref t2])).trans (Same.new ha (.tup [.ref p]))
      have kt := (ap10.kt B9).trans ea.kt
      have hS : IsS _ (.ask (1 + r10) s1 x8 s2 ss1 ss2) (.ref p) := ⟨p, v8, t1, t2, rfl, Same.new ha (.tup [.ref p]) _ _ upd_same, hx8.keep ((ap9.kt E8.bag).trans kt), hs1.keep kt, hs2.keep kt⟩
      have hp2 := pow_one hr1
      refine q8 a _ [.ask (1 + r10) s1 x8 s2 ss1 ss2] ⟨[.ref p], upd_same, IsAll.one hS⟩ ?_ ?_ ?_ ((ap9.trans ap10).trans ea.apart) (B10.same ea)
      · simp only [depL, depS]
        omega
      · simp only [wtL, wtS]
        omega
      · show 1 ≤ 100 + r
        omega
end

-- CUT6
theorem or_later {t : TT} {s1 s2 : TS} {D : Ends} {σ : St} {H : Hp} (h : s1 D σ H → tIfS t s1 s2 D σ H) (x : s1 D σ H) : tIfS t s1 s2 D σ H := h x
section
variable {P : Program} {w : World} {K : PySem.W.Frag} {mg : Str → Option Value} {base : Heap} {A : Ad}
theorem ok_lines_step (T : Txt K mg A) (r kk : Nat) (hk : 3 ≤ kk) (G : FnOk P w K mg base CX0 kk A.f_lines A.fd_lines ["_law_bag_here", "_law_players", "_law_pool_here", "_law_present", "_law_room", "_law_wide"] (fun vs H Q E => ∃ m, r = m + 1 ∧ spLines m vs H Q E)) (Ga : FnOk P w K mg base CX0 (kk + 1) A.f_ask A.fd_ask ["_law_bag_here", "_law_players", "_law_pool_here", "_law_present", "_law_room", "_law_wide"] (spAsk r)) : FnOk P w K mg base CX0 (kk + 2) A.f_lines A.fd_lines ["_law_bag_here", "_law_players", "_law_pool_here", "_law_present", "_law_room", "_law_wide"] (spLines r) := by
  refine T.d_lines.F.ok sc_lines (fun vs H Q E h => ?_) (fun cdv ar outer s H vs Q E hr h => ?_)
  · obtain ⟨b, l, po, pr, m, room, wide, ps, qs, rfl, _⟩ := h
    rfl
  obtain ⟨b, l, po, pr, m, room, wide, ps, qs, rfl, E0, ⟨m0, m5⟩, hq8, hroom, ⟨w0, w7⟩, q, q'⟩ : ∃ (b l po pr : Addr) (m room wide : Int) (ps qs : List Str), vs = [.ref b, .int m, .ref po, .ref pr, .int room, .int wide] ∧ LE H b l po pr ps qs ∧ (0 < m ∧ m ≤ 5) ∧ qs.length + r ≤ 8 ∧ room ≤ r ∧ (0 ≤ wide ∧ wide ≤ 7) ∧ Res b l Q r H ∧ True := by
    obtain ⟨b, l, po, pr, m, room, wide, ps, qs, h1, h2, h3, h4, h5, h6, h7⟩ := h
    exact ⟨b, l, po, pr, m, room, wide, ps, qs, h1, h2, h3, h4, h5, h6, h7, trivial⟩
  refine ⟨_, (pss_cons (ps_set (i := 6) sc_lines.nd rfl (Or.inl rfl) (pe_call (ok_pull T) (hr.mono (by omega)) rfl T.d_pull.m T.d_pull.F.kp T.d_pull.b .nil pass0 (pa_cons (pv 0) (pa_cons pe_int pa_nil))))
    (pss_cons (ps_if (PW.pt (pw_or (pt_cmpR op_lt (pv 4) pe_int (nomark _)) (pw_or (pt_cmpR (r := rEqD K) (op_eqD hr.units) (pv 3) (pe_lst pa_nil) (nomark _)) (pw_or1 (pt_cmpR op_eq (pv 6) pe_int (nomark _)))))) (pss_one (ps_ret (pe_call (ok_ends T) (hr.mono (by omega)) rfl T.d_ends.m T.d_ends.F.kp T.d_ends.b .nil pass0 (pa_cons (pv 0) (pa_cons (pv 1) (pa_cons (pv 3) pa_nil)))))) pss_nil)
    (pss_cons (ps_if (PW.pt (pw_and (pt_cmpR op_eq (pv 6) pe_int (nomark _)) (pw_and1 (pt_cmpR op_gt (pv 5) pe_int (nomark _))))) (pss_one (ps_ret (pe_call Ga (hr.mono (by omega)) rfl T.d_ask.m T.d_ask.F.kp T.d_ask.b .nil pass0 (pa_cons (pv 0) (pa_cons (pv 1) (pa_cons (pv 2) (pa_cons (pv 3) (pa_cons (pv 4) (pa_cons (pv 5) pa_nil))))))))) pss_nil)
    (pss_cons (ps_par (i := 7) (j := 8) (by rfl) sc_lines.nd rfl rfl (by decide) rfl rfl (pa_cons (pe_op op_add pe_int (pe_call (ok_pull T) (hr.mono (by omega)) rfl T.d_pull.m T.d_pull.F.kp T.d_pull.b .nil pass0 (pa_cons (pv 0) (pa_cons (pv 1) pa_nil)))) (pa_cons (pe_call (ok_mixed T) (hr.mono (by omega)) rfl T.d_mixed.m T.d_mixed.F.kp T.d_mixed.b .nil pass0 (pa_cons (pv 0) (pa_cons (pv 3) pa_nil))) pa_nil)) (by rfl))
    (pss_cons (ps_if (PW.pt (pw_or (pt_cmpR op_lt (pv 6) pe_int (nomark _)) (pw_or1 (pt_cmpR op_lt (pe_callB (r := rLenK K) call_len_seq (by rfl) T.len (by decide +kernel) (pa_cons (pv 3) pa_nil)) pe_int (nomark _))))) (pss_cons (ps_set (i := 9) sc_lines.nd rfl (Or.inl rfl) (pe_call (ok_without T) (hr.mono (by omega)) rfl T.d_without.m T.d_without.F.kp T.d_without.b .nil pass0 (pa_cons (pv 3) (pa_cons (pe_slice (r := rSlL K) sl_list (pv 8) po_none (po_some pe_int)) pa_nil))))
    (pss_cons (ps_asg (pe_call (ok_fresh T) (hr.mono (by omega)) rfl T.d_fresh.m T.d_fresh.F.kp T.d_fresh.b .nil pass0 (pa_cons (pv 0) (pa_cons (pv 2) (pa_cons (pv 9) (pa_cons pe_int pa_nil))))) (pg_unl rfl (pgs_cons (pg_name (i := 10) sc_lines.nd rfl (Or.inl rfl)) (pgs_cons (pg_name (i := 11) sc_lines.nd rfl (Or.inl rfl)) pgs_nil))))
    (pss_cons (ps_set (i := 12) sc_lines.nd rfl (Or.inl rfl) (pe_call G (hr.mono (by omega)) rfl T.d_lines.m T.d_lines.F.kp T.d_lines.b .nil pass0 (pa_cons (pv 0) (pa_cons (pv 1) (pa_cons (pv 2) (pa_cons (pe_op op_cat (pv 9) (pe_lst (pa_cons (pv 10) (pa_cons (pv 11) pa_nil)))) (pa_cons (pe_op op_sub (pv 4) pe_int) (pa_cons (pv 5) pa_nil))))))))
    (pss_one (ps_ret (pe_op op_catT (pe_tup (pa_cons (pe_tup (pa_cons pe_str (pa_cons (pe_ix (r := rIxL K) ix_list (pv 8) pe_int (fun _ _ => rfl)) (pa_cons (pv 7) (pa_cons (pe_call (ok_share T) (hr.mono (by omega)) rfl T.d_share.m T.d_share.F.kp T.d_share.b .nil pass0 (pa_cons (pv 0) pa_nil)) (pa_cons (pv 10) (pa_cons (pv 11) pa_nil))))))) pa_nil)) (pv 12))))))) pss_nil)
    (pss_cons (ps_if (PW.pt (pw_and (pt_cmpR op_lt (pv 6) pe_int (nomark _)) (pw_and1 (pt_cmpR op_gt (pv 5) pe_int (nomark _))))) (pss_cons (ps_set (i := 9) sc_lines.nd rfl (Or.inl rfl) (pe_call (ok_without T) (hr.mono (by omega)) rfl T.d_without.m T.d_without.F.kp T.d_without.b .nil pass0 (pa_cons (pv 3) (pa_cons (pe_slice (r := rSlL K) sl_list (pv 8) po_none (po_some pe_int)) pa_nil))))
    (pss_cons (ps_asg (pe_call (ok_fresh T) (hr.mono (by omega)) rfl T.d_fresh.m T.d_fresh.F.kp T.d_fresh.b .nil pass0 (pa_cons (pv 0) (pa_cons (pv 2) (pa_cons (pv 9) (pa_cons pe_int pa_nil))))) (pg_unl rfl (pgs_cons (pg_name (i := 10) sc_lines.nd rfl (Or.inl rfl)) (pgs_cons (pg_name (i := 11) sc_lines.nd rfl (Or.inl rfl)) pgs_nil))))
    (pss_cons (ps_set (i := 12) sc_lines.nd rfl (Or.inl rfl) (pe_call G (hr.mono (by omega)) rfl T.d_lines.m T.d_lines.F.kp T.d_lines.b .nil pass0 (pa_cons (pv 0) (pa_cons (pv 1) (pa_cons (pv 2) (pa_cons (pe_op op_cat (pv 9) (pe_lst (pa_cons (pv 10) (pa_cons (pv 11) pa_nil)))) (pa_cons (pe_op op_sub (pv 4) pe_int) (pa_cons (pe_op op_fdiv (pv 5) pe_int) pa_nil))))))))
    (pss_one (ps_ret (pe_op op_catT (pe_tup (pa_cons (pe_tup (pa_cons pe_str (pa_cons (pe_ix (r := rIxL K) ix_list (pv 8) pe_int (fun _ _ => rfl)) (pa_cons (pe_ix (r := rIxL K) ix_list (pv 8) pe_int (fun _ _ => rfl)) (pa_cons (pv 7) (pa_cons (pv 10) (pa_cons (pv 11) pa_nil))))))) pa_nil)) (pv 12))))))) pss_nil)
    (pss_cons (ps_set (i := 13) sc_lines.nd rfl (Or.inl rfl) (pe_op op_add pe_int (pe_call (ok_pull T) (hr.mono (by omega)) rfl T.d_pull.m T.d_pull.F.kp T.d_pull.b .nil pass0 (pa_cons (pv 0) (pa_cons (pe_callB (call_min2 rfl) (by rfl) T.min (by decide +kernel) (pa_cons pe_int (pa_cons (pe_op op_sub (pe_callB (r := rLenK K) call_len_seq (by rfl) T.len (by decide +kernel) (pa_cons (pv 3) pa_nil)) pe_int) pa_nil))) pa_nil)))))
    (pss_cons (ps_set (i := 14) sc_lines.nd rfl (Or.inl rfl) (pe_callTy (r := rTupK K) call_tuple_of (by rfl) T.tuple (by decide +kernel) (pa_cons (pe_slice (r := rSlL K) sl_list (pv 8) po_none (po_some (pv 13))) pa_nil)))
    (pss_cons (ps_set (i := 9) sc_lines.nd rfl (Or.inl rfl) (pe_call (ok_without T) (hr.mono (by omega)) rfl T.d_without.m T.d_without.F.kp T.d_without.b .nil pass0 (pa_cons (pv 3) (pa_cons (pv 14) pa_nil))))
    (pss_cons (ps_if (PW.pt (pw_and (pt_cmpR op_lt (pv 6) pe_int (nomark _)) (pw_and1 (pt_cmpR op_ge (pv 5) (pe_callB (r := rLenK K) call_len_seq (by rfl) T.len (by decide +kernel) (pa_cons (pv 14) pa_nil)) (nomark _))))) (pss_cons (ps_set (i := 15) sc_lines.nd rfl (Or.inl rfl) (pe_call (ok_fresh T) (hr.mono (by omega)) rfl T.d_fresh.m T.d_fresh.F.kp T.d_fresh.b .nil pass0 (pa_cons (pv 0) (pa_cons (pv 2) (pa_cons (pv 9) (pa_cons (pe_callB (r := rLenK K) call_len_seq (by rfl) T.len (by decide +kernel) (pa_cons (pv 14) pa_nil)) pa_nil))))))
    (pss_cons (ps_set (i := 12) sc_lines.nd rfl (Or.inl rfl) (pe_call G (hr.mono (by omega)) rfl T.d_lines.m T.d_lines.F.kp T.d_lines.b .nil pass0 (pa_cons (pv 0) (pa_cons (pv 1) (pa_cons (pv 2) (pa_cons (pe_op op_cat (pv 9) (pv 15)) (pa_cons (pe_op op_sub (pv 4) pe_int) (pa_cons (pe_op op_fdivW (pv 5) (pe_callB (r := rLenK K) call_len_seq (by rfl) T.len (by decide +kernel) (pa_cons (pv 14) pa_nil))) pa_nil))))))))
    (pss_one (ps_ret (pe_op op_catT (pe_tup (pa_cons (pe_tup (pa_cons pe_str (pa_cons (pv 7) (pa_cons (pe_call (ok_of T) (hr.mono (by omega)) rfl T.d_of.m T.d_of.F.kp T.d_of.b .nil pass0 (pa_cons (pv 0) (pa_cons (pe_lst (pa_cons pe_str (pa_cons pe_str (pa_cons pe_str pa_nil)))) pa_nil))) (pa_cons (pv 14) (pa_cons (pe_callTy (r := rTupK K) call_tuple_of (by rfl) T.tuple (by decide +kernel) (pa_cons (pv 15) pa_nil)) pa_nil)))))) pa_nil)) (pv 12)))))) pss_nil)
    (pss_cons (ps_if (pt_cmpR op_eq (pv 6) pe_int (nomark _)) (pss_cons (ps_set (i := 16) sc_lines.nd rfl (Or.inl rfl) (pe_ix (r := rIxL K) ix_list (pe_call (ok_fresh T) (hr.mono (by omega)) rfl T.d_fresh.m T.d_fresh.F.kp T.d_fresh.b .nil pass0 (pa_cons (pv 0) (pa_cons (pv 2) (pa_cons (pv 9) (pa_cons pe_int pa_nil))))) pe_int (fun _ _ => rfl)))
    (pss_one (ps_ret (pe_op op_catT (pe_tup (pa_cons (pe_tup (pa_cons pe_str (pa_cons (pv 14) (pa_cons (pv 16) pa_nil)))) pa_nil)) (pe_call G (hr.mono (by omega)) rfl T.d_lines.m T.d_lines.F.kp T.d_lines.b .nil pass0 (pa_cons (pv 0) (pa_cons (pv 1) (pa_cons (pv 2) (pa_cons (pe_op op_cat (pv 9) (pe_lst (pa_cons (pv 16) pa_nil))) (pa_cons (pe_op op_sub (pv 4) pe_int) (pa_cons (pv 5) pa_nil))))))))))) pss_nil)
    (pss_cons (ps_set (i := 17) sc_lines.nd rfl (Or.inl rfl) (pe_call (ok_of T) (hr.mono (by omega)) rfl T.d_of.m T.d_of.F.kp T.d_of.b .nil pass0 (pa_cons (pv 0) (pa_cons (pe_lst (pa_cons (pe_tup (pa_cons pe_str (pa_cons (pe_ix (r := rIxL K) ix_list (pv 8) pe_int (fun _ _ => rfl)) (pa_cons (pv 7) pa_nil)))) (pa_cons (pe_tup (pa_cons pe_str (pa_cons (pe_ix (r := rIxL K) ix_list (pv 8) pe_int (fun _ _ => rfl)) pa_nil))) pa_nil))) pa_nil))))
    (pss_one (ps_ret (pe_op op_catT (pe_tup (pa_cons (pv 17) pa_nil)) (pe_call G (hr.mono (by omega)) rfl T.d_lines.m T.d_lines.F.kp T.d_lines.b .nil pass0 (pa_cons (pv 0) (pa_cons (pv 1) (pa_cons (pv 2) (pa_cons (pe_call (ok_without T) (hr.mono (by omega)) rfl T.d_without.m T.d_without.F.kp T.d_without.b .nil pass0 (pa_cons (pv 3) (pa_cons (pe_slice (r := rSlL K) sl_list (pv 8) po_none (po_some pe_int)) pa_nil))) (pa_cons (pe_op op_sub (pv 4) pe_int) (pa_cons (pv 5) pa_nil)))))))))))))))))))))), ?_⟩
  refine ⟨_, rfl, b, l, 12, rfl, E0.bag, by decide, p200 (by decide), fun way H1 way0 way1 ap1 B1 => ?_⟩
  have E1 := E0.go ap1 B1
  have q1 := q.go ap1
  clear E0 q ap1 B1 h q'
  -- the ends
  have ends : ∀ {H2 : Hp}, LE H2 b l po pr ps qs → Res b l Q r H2 → spEnds [.ref b, .int m, .ref pr] H2 Q L2.E0 := fun {H2} E2 q2 => ⟨b, l, pr, m, qs, rfl, E2.bag, m0, by omega, E2.pr, by omega, fun t H3 ss h1 h2 h3 h4 ap B => by
    refine q2 t H3 ss h1 (by omega) ?_ (by omega) ap B
    have : 0 < 2 ^ r := Nat.pow_pos (by decide)
    omega⟩
  refine ⟨_, rfl, _, _, rfl, rfl, _, rfl, ?_⟩
  refine ite2 (fun c0 => ?_) (fun c0 => ?_)
  · refine iteT ⟨_, rfl, _, rfl, _, rfl, ends E1 q1⟩
  have hroom1 : ¬ room < 1 := fun h => c0 (decide_eq_true h)
  refine ⟨_, rfl, slr rfl, fun l2 hl2 => ?_⟩
  have e2 := Same.new hl2 (.lst [])
  have hnil : upd H1 l2 (.lst []) l2 = some (.lst []) := upd_same
  have E2 := E1.go e2.apart (E1.bag.same e2)
  have q2 := q1.go e2.apart
  generalize upd H1 l2 (.lst []) = H2 at *
  clear E1 q1 e2
  refine ⟨_, _, .lst (SqL.of E2.pr) (dp_strs qs), .lst (SqL.of hnil) .nil, shaped_strs E2.nm, by decide +kernel, _, rfl, ?_⟩
  rw [eq_nil]
  refine ite2 (fun c1 => ?_) (fun c1 => ?_)
  · refine iteT ⟨_, rfl, _, rfl, _, rfl, ends E2 q2⟩
  have hne : qs ≠ [] := fun h => c1 (decide_eq_true h)
  refine ⟨_, rfl, rfl, _, rfl, ?_⟩
  refine ite2 (fun _ => ?_) (fun _ => ?_)
  · exact ⟨_, rfl, _, rfl, _, rfl, ends E2 q2⟩
  clear ends
  dsimp only [tNext]
  have hr1 : 1 ≤ r := by omega
  have hql : 0 < qs.length := List.length_pos_iff.mpr hne
  have hp2 := pow_one hr1
  refine seq_key (fun σ' H' => σ' = [some (.ref b), some (.int m), some (.ref po), some (.ref pr), some (.int room), some (.int wide), some (.int way), none, none, none, none, none, none, none, none, none, none, none] ∧ H' = H2) ?_ (fun k => ?_)
  rotate_left
  · refine ⟨_, rfl, rfl, _, rfl, ?_⟩
    refine ite2 (fun _ => ?_) (fun _ => iteF (k _ _ ⟨rfl, rfl⟩))
    refine ⟨_, rfl, _, _, rfl, rfl, _, rfl, ?_⟩
    refine ite2 (fun _ => ?_) (fun _ => k _ _ ⟨rfl, rfl⟩)
    exact ⟨_, rfl, _, rfl, _, rfl, _, rfl, _, rfl, _, rfl, b, l, po, pr, m, room, wide, ps, qs, rfl, E2, ⟨m0, m5⟩, hq8, hroom, ⟨w0, w7⟩, q2, hr1, hne⟩
  rintro σ' H' ⟨rfl, he⟩
  have he := he.symm
  subst he
  refine ⟨_, rfl, _, rfl, b, l, m, rfl, E2.bag, m0, p200 (by omega), fun r3 H3 r30 r31 ap3 B3 => ⟨_, _, rfl, rfl, _, rfl, _, rfl, b, l, pr, qs, rfl, B3, (E2.go ap3 B3).pr, by omega, fun sh H4 ys ap4 B4 hsh0 hsh perm => ⟨_, _, rfl, ?_⟩⟩⟩
  have E4 := (E2.go ap3 B3).go ap4 B4
  have q4 := (q2.go ap3).go ap4
  have hyl := perm.length_eq
  obtain ⟨y0, hy0⟩ : ∃ y0, ys[0]? = some y0 := ⟨_, List.getElem?_eq_getElem (by omega)⟩
  have hl1 := left_len perm 1
  have ht1 : (ys.take 1).length = 1 := by rw [List.length_take]; omega
  have c1 : cutV (ys.map V.str) none (some 1) = (ys.take 1).map V.str := cut_take ys 1
  clear E2 q2 ap3 B3 ap4 B4 hsh0
  dsimp only [tNext]
  refine seq_key (fun σ' H' => σ' = [some (.ref b), some (.int m), some (.ref po), some (.ref pr), some (.int room), some (.int wide), some (.int way), some (.int (1 + r3)), some (.ref sh), none, none, none, none, none, none, none, none, none] ∧ H' = H4 ∧ 2 ≤ qs.length) ?_ (fun k => ?_)
  rotate_left
  · refine or_later (fun hX => ?_) ?_
    · refine ⟨_, rfl, _, _, rfl, rfl, _, rfl, ?_⟩
      refine ite2 (fun _ => iteT hX) (fun _ => ?_)
      refine ⟨_, rfl, pr, _, rfl, .inl (SqL.of E4.pr), _, _, rfl, rfl, _, rfl, ?_⟩
      refine ite2 (fun _ => hX) (fun c3 => k _ _ ⟨rfl, rfl, ?_⟩)
      rw [List.length_map] at c3
      simp at c3
      omega
    · -- cut
      clear k
      refine ⟨_, rfl, _, rfl, _, rfl, sh, _, rfl, SqL.of hsh, fun g5 hg5 => ⟨pr, g5, qs, ys.take 1, rfl, Same.new hg5 _ _ _ E4.pr, .inl (by rw [← c1]; exact SqL.of upd_same), by omega, fun lf H6 e6 hlf0 hlf => ?_⟩⟩
      have e46 := (Same.new hg5 (.lst (cutV (ys.map V.str) none (some 1)))).trans e6
      have E6 := E4.go e46.apart (E4.bag.same e46)
      have q6 := q4.go e46.apart
      have hsh6 := e46 _ _ hsh
      have nl : NmL (qs.filter fun x => !decide (x ∈ ys.take 1)) := E4.nm.sub fun y hy => (List.mem_filter.mp hy).1
      generalize (qs.filter fun x => !decide (x ∈ ys.take 1)) = ls at *
      have h12 := E6.ok.len
      refine ⟨_, rfl, _, rfl, _, rfl, b, l, po, lf, ps, ls, 2, rfl, E6.bag, E6.po, hlf, by omega, by omega, E6.ok.nodup, by omega, fun fr H7 zs ap7 B7 hfr0 hfr hzl hznd hzin => ?_⟩
      match zs, hzl, hfr, hzin with
      | [z1, z2], _, hfr, hzin =>
      have E7 := E6.go ap7 B7
      have q7 := q6.go ap7
      have hsh7 := E6.bag.st ap7 hsh6
      have hlf7 := E6.bag.st ap7 hlf
      refine ⟨fr, _, rfl, SqL.of hfr, rfl, _, _, rfl, _, _, rfl, rfl, ?_⟩
      refine ⟨_, rfl, _, rfl, _, rfl, _, rfl, _, rfl, _, rfl, slr rfl, fun l8 hl8 => ⟨lf, l8, _, _, rfl, rfl, Same.new hl8 _ _ _ hlf7, upd_same, sl_small (by rw [List.length_map]; show ls.length + 2 ≤ 100000; omega), fun l9 hl9 => ?_⟩⟩
      have e79 := (Same.new hl8 (.lst [.str z1, .str z2])).trans (Same.new hl9 (.lst (ls.map V.str ++ [.str z1, .str z2])))
      have E9 := E7.go e79.apart (E7.bag.same e79)
      have q9 := q7.go e79.apart
      have hsh9 := e79 _ _ hsh7
      refine ⟨_, rfl, _, _, rfl, rfl, _, rfl, r - 1, by omega, b, l, po, l9, m, _, _, ps, ls ++ [z1, z2], rfl, ⟨E9.bag, E9.po, by rw [upd_same, List.map_append]; rfl, E9.ok, nl.app (E9.ok.nm.sub fun y hy => (hzin y hy).1)⟩, ⟨m0, m5⟩, by rw [List.length_append]; show ls.length + 2 + (r - 1) ≤ 8; omega, by show room - 1 ≤ _; omega, ⟨w0, w7⟩, fun t H10 ss hs d1 w1 n1 ap10 B10 => ?_⟩
      have q10 := q9.go ap10
      have hsh10 := E9.bag.st ap10 hsh9
      refine ⟨_, rfl, sh, _, _, _, rfl, rfl, SqL.of hsh10, at_of (j := 0) rfl (by rw [List.getElem?_map, hy0]; rfl), _, rfl, _, rfl, b, l, rfl, B10, fun v x H11 hx ap11 B11 => ⟨_, rfl, _, rfl, slr rfl, fun p hp => ⟨slr rfl, fun a ha => ⟨_, rfl, ?_⟩⟩⟩⟩
      have q11 := q10.go ap11
      have hs11 := hs.keep (ap11.kt B10)
      have ea := (Same.new hp (.tup [.str "cut", .str y0, .int (1 + r3), v, .str z1, .str z2])).trans (Same.new ha (.tup [.ref p]))
      have hS : IsS _ (.cut y0 (1 + r3) x z1 z2) (.ref p) := ⟨p, v, rfl, Same.new ha (.tup [.ref p]) _ _ upd_same, hx.mono ea⟩
      refine cat_ls upd_same hS (hs11.keep ea.kt) (by omega) fun t' H' hs' e' => q11 t' H' _ hs' ?_ ?_ ?_ ((ea.trans e').apart) (B11.same (ea.trans e'))
      · simp only [depL, depS]
        omega
      · simp only [wtL, wtS]
        omega
      · show ss.length + 1 ≤ _
        omega
  rintro σ' H' ⟨rfl, he, hq2⟩
  have he := he.symm
  subst he
  obtain ⟨y1, hy1⟩ : ∃ y1, ys[1]? = some y1 := ⟨_, List.getElem?_eq_getElem (by omega)⟩
  refine seq_key (fun σ' H' => σ' = [some (.ref b), some (.int m), some (.ref po), some (.ref pr), some (.int room), some (.int wide), some (.int way), some (.int (1 + r3)), some (.ref sh), none, none, none, none, none, none, none, none, none] ∧ H' = H4) ?_ (fun k => ?_)
  rotate_left
  · refine ⟨_, rfl, _, _, rfl, rfl, _, rfl, ?_⟩
    refine ite2 (fun _ => ?_) (fun _ => iteF (k _ _ ⟨rfl, rfl⟩))
    refine ⟨_, rfl, _, _, rfl, rfl, _, rfl, ?_⟩
    refine ite2 (fun c4 => ?_) (fun _ => k _ _ ⟨rfl, rfl⟩)
    -- trim
    clear k
    refine ⟨_, rfl, _, rfl, _, rfl, sh, _, rfl, SqL.of hsh, fun g5 hg5 => ⟨pr, g5, qs, ys.take 1, rfl, Same.new hg5 _ _ _ E4.pr, .inl (by rw [← c1]; exact SqL.of upd_same), by omega, fun lf H6 e6 hlf0 hlf => ?_⟩⟩
    have e46 := (Same.new hg5 (.lst (cutV (ys.map V.str) none (some 1)))).trans e6
    have E6 := E4.go e46.apart (E4.bag.same e46)
    have q6 := q4.go e46.apart
    have hsh6 := e46 _ _ hsh
    have nl : NmL (qs.filter fun x => !decide (x ∈ ys.take 1)) := E4.nm.sub fun y hy => (List.mem_filter.mp hy).1
    generalize (qs.filter fun x => !decide (x ∈ ys.take 1)) = ls at *
    have h12 := E6.ok.len
    refine ⟨_, rfl, _, rfl, _, rfl, b, l, po, lf, ps, ls, 2, rfl, E6.bag, E6.po, hlf, by omega, by omega, E6.ok.nodup, by omega, fun fr H7 zs ap7 B7 hfr0 hfr hzl hznd hzin => ?_⟩
    match zs, hzl, hfr, hzin with
    | [z1, z2], _, hfr, hzin =>
    have E7 := E6.go ap7 B7
    have q7 := q6.go ap7
    have hsh7 := E6.bag.st ap7 hsh6
    have hlf7 := E6.bag.st ap7 hlf
    refine ⟨fr, _, rfl, SqL.of hfr, rfl, _, _, rfl, _, _, rfl, rfl, ?_⟩
    refine ⟨_, rfl, _, rfl, _, rfl, _, rfl, _, rfl, _, rfl, slr rfl, fun l8 hl8 => ⟨lf, l8, _, _, rfl, rfl, Same.new hl8 _ _ _ hlf7, upd_same, sl_small (by rw [List.length_map]; show ls.length + 2 ≤ 100000; omega), fun l9 hl9 => ?_⟩⟩
    have e79 := (Same.new hl8 (.lst [.str z1, .str z2])).trans (Same.new hl9 (.lst (ls.map V.str ++ [.str z1, .str z2])))
    have E9 := E7.go e79.apart (E7.bag.same e79)
    have q9 := q7.go e79.apart
    have hsh9 := e79 _ _ hsh7
    refine ⟨_, rfl, _, _, rfl, rfl, _, rfl, _, _, rfl, rfl, ⟨by decide, by decide⟩, r - 1, by omega, b, l, po, l9, m, _, _, ps, ls ++ [z1, z2], rfl, ⟨E9.bag, E9.po, by rw [upd_same, List.map_append]; rfl, E9.ok, nl.app (E9.ok.nm.sub fun y hy => (hzin y hy).1)⟩, ⟨m0, m5⟩, by rw [List.length_append]; show ls.length + 2 + (r - 1) ≤ 8; omega, by show room - 1 ≤ _; omega, ⟨by show 0 ≤ wide / 2; omega, by show wide / 2 ≤ 7; omega⟩, fun t H10 ss hs d1 w1 n1 ap10 B10 => ?_⟩
    have q10 := q9.go ap10
    have hsh10 := E9.bag.st ap10 hsh9
    refine ⟨_, rfl, sh, _, _, _, rfl, rfl, SqL.of hsh10, at_of (j := 0) rfl (by rw [List.getElem?_map, hy0]; rfl), _, rfl, sh, _, _, _, rfl, rfl, SqL.of hsh10, at_of (j := 1) rfl (by rw [List.getElem?_map, hy1]; rfl), _, rfl, _, rfl, _, rfl, slr rfl, fun p hp => ⟨slr rfl, fun a ha => ⟨_, rfl, ?_⟩⟩⟩
    have ea := (Same.new hp (.tup [.str "trim", .str y0, .str y1, .int (1 + r3), .str z1, .str z2])).trans (Same.new ha (.tup [.ref p]))
    have hS : IsS _ (.trim y0 y1 (1 + r3) z1 z2) (.ref p) := ⟨p, rfl, Same.new ha (.tup [.ref p]) _ _ upd_same⟩
    refine cat_ls upd_same hS (hs.keep ea.kt) (by omega) fun t' H' hs' e' => q10 t' H' _ hs' ?_ ?_ ?_ ((ea.trans e').apart) (B10.same (ea.trans e'))
    · simp only [depL, depS]
      omega
    · simp only [wtL, wtS]
      omega
    · show ss.length + 1 ≤ _
      omega
  rintro σ' H' ⟨rfl, he⟩
  have he := he.symm
  subst he
  refine ⟨_, rfl, _, rfl, pr, _, rfl, .inl (SqL.of E4.pr), _, _, rfl, rfl, _, _, rfl, b, l, _, rfl, E4.bag, by rw [List.length_map]; split <;> omega, p200 (by rw [List.length_map]; split <;> omega), fun r5 H5 r50 r51 ap5 B5 => ?_⟩
  have E5 := E4.go ap5 B5
  have q5 := q4.go ap5
  have hsh5 := E4.bag.st ap5 hsh
  rw [List.length_map] at r51
  have hk1 : 2 + r5 ≤ 4 ∧ 2 + r5 ≤ ((qs.length : Nat) : Int) := by split at r51 <;> omega
  obtain ⟨kn, hkn⟩ : ∃ kn : Nat, 2 + r5 = ((kn : Nat) : Int) := ⟨(2 + r5).toNat, by rw [Int.toNat_of_nonneg (by omega)]⟩
  have hl5 := left_len perm kn
  have htk : (ys.take kn).length = kn := by rw [List.length_take]; omega
  have ck : cutV (ys.map V.str) none (some (2 + r5)) = (ys.take kn).map V.str := by rw [hkn]; exact cut_take ys kn
  refine ⟨_, _, rfl, rfl, ?_⟩
  clear E4 q4 ap5 B5
  refine ⟨_, rfl, _, rfl, _, rfl, sh, _, rfl, SqL.of hsh5, fun g6 hg6 => ⟨g6, _, rfl, .inl ⟨SqL.of upd_same, fun u7 hu7 => ?_⟩⟩⟩
  have e57 := (Same.new hg6 (.lst (cutV (ys.map V.str) none (some (2 + r5))))).trans (Same.new hu7 (.tup (cutV (ys.map V.str) none (some (2 + r5)))))
  have hu7' : upd (upd H5 g6 (.lst (cutV (ys.map V.str) none (some (2 + r5))))) u7 (.tup (cutV (ys.map V.str) none (some (2 + r5)))) u7 = some (.tup ((ys.take kn).map V.str)) := by rw [upd_same, ck]
  have E7 := E5.go e57.apart (E5.bag.same e57)
  have q7 := q5.go e57.apart
  have hsh7 := e57 _ _ hsh5
  refine ⟨_, rfl, _, rfl, pr, u7, qs, ys.take kn, rfl, E7.pr, .inr (SqT.of hu7'), by omega, fun lf H8 e8 hlf0 hlf => ?_⟩
  have E8 := E7.go e8.apart (E7.bag.same e8)
  have q8 := q7.go e8.apart
  have hsh8 := e8 _ _ hsh7
  have hu8 := e8 _ _ hu7'
  have nl : NmL (qs.filter fun x => !decide (x ∈ ys.take kn)) := E8.nm.sub fun y hy => (List.mem_filter.mp hy).1
  clear E5 E7 q5 q7 hsh5 hsh7 e57 e8 hu7' ck
  generalize (qs.filter fun x => !decide (x ∈ ys.take kn)) = ls at *
  generalize ys.take kn = us at *
  have h12 := E8.ok.len
  dsimp only [gName]
  refine seq_key (fun σ' H' => σ' = [some (.ref b), some (.int m), some (.ref po), some (.ref pr), some (.int room), some (.int wide), some (.int way), some (.int (1 + r3)), some (.ref sh), some (.ref lf), none, none, none, some (.int (2 + r5)), some (.ref u7), none, none, none] ∧ H' = H8) ?_ (fun k => ?_)
  rotate_left
  · refine ⟨_, rfl, _, _, rfl, rfl, _, rfl, ?_⟩
    refine ite2 (fun _ => ?_) (fun _ => iteF (k _ _ ⟨rfl, rfl⟩))
    refine ⟨_, rfl, _, rfl, u7, _, rfl, .inr (SqT.of hu8), _, _, rfl, rfl, _, rfl, ?_⟩
    refine ite2 (fun c4 => ?_) (fun _ => k _ _ ⟨rfl, rfl⟩)
    -- pick
    clear k
    refine ⟨_, rfl, _, rfl, _, rfl, _, rfl, u7, _, rfl, .inr (SqT.of hu8), b, l, po, lf, ps, ls, (us.map V.str).length, rfl, E8.bag, E8.po, hlf, by omega, by omega, E8.ok.nodup, by rw [List.length_map]; omega, fun fr H9 zs ap9 B9 hfr0 hfr hzl hznd hzin => ?_⟩
    rw [List.length_map] at hzl
    have E9 := E8.go ap9 B9
    have q9 := q8.go ap9
    have hlf9 := E8.bag.st ap9 hlf
    have hu9 := ap9.kt E8.bag _ _ hu8
    refine ⟨_, rfl, _, rfl, _, rfl, _, rfl, _, rfl, lf, fr, _, _, rfl, rfl, hlf9, hfr, sl_small (by rw [List.length_map, List.length_map]; omega), fun l10 hl10 => ?_⟩
    have e10 := Same.new hl10 (.lst (ls.map V.str ++ zs.map V.str))
    have E10 := E9.go e10.apart (E9.bag.same e10)
    have q10 := q9.go e10.apart
    have hu10 := e10 _ _ hu9
    have hfr10 := e10 _ _ hfr
    have hw3 : (0 : Int) ≤ wide / ((us.length : Nat) : Int) ∧ wide / ((us.length : Nat) : Int) ≤ wide := ⟨Int.ediv_nonneg w0 (by omega), Int.ediv_le_self _ w0⟩
    refine ⟨_, rfl, _, _, rfl, rfl, _, rfl, _, rfl, u7, _, rfl, .inr (SqT.of hu10), _, _, rfl, rfl, ⟨by rw [List.length_map]; omega, by rw [List.length_map]; exact Nat.lt_of_le_of_lt (Nat.log2_le_self _) (by omega)⟩, r - 1, by omega, b, l, po, l10, m, _, _, ps, ls ++ zs, rfl, ⟨E10.bag, E10.po, by rw [upd_same, List.map_append], E10.ok, nl.app (E10.ok.nm.sub fun y hy => (hzin y hy).1)⟩, ⟨m0, m5⟩, by rw [List.length_append]; omega, by show room - 1 ≤ _; omega, ⟨by rw [List.length_map]; exact hw3.1, by rw [List.length_map]; show wide / _ ≤ 7; omega⟩, fun t H11 ss hs d1 w1 n1 ap11 B11 => ?_⟩
    have q11 := q10.go ap11
    have hu11 := ap11.kt E10.bag _ _ hu10
    have hfr11 := E10.bag.st ap11 hfr10
    refine ⟨_, rfl, _, rfl, slr rfl, fun l12 hl12 => ?_⟩
    have e12 := Same.new hl12 (.lst [.str "greatest", .str "least", .str "greatest"])
    refine ⟨b, l, l12, _, rfl, B11.same e12, SqL.of upd_same, B11.ne hl12, by show 0 < 3; decide, by show 3 ≤ 1000; decide, fun i13 v13 H13 hv13 ap13 B13 => ?_⟩
    obtain ⟨w13, rfl⟩ : ∃ w13 : Str, v13 = .str w13 := by
      match i13, hv13 with
      | 0, hv => cases hv; exact ⟨_, rfl⟩
      | 1, hv => cases hv; exact ⟨_, rfl⟩
      | 2, hv => cases hv; exact ⟨_, rfl⟩
    have ap12 := e12.apart.trans ap13
    have q13 := q11.go ap12
    have kt12 := ap12.kt B11
    have hu13 := kt12 _ _ hu11
    have hfr13 := B11.st ap12 hfr11
    refine ⟨_, rfl, _, rfl, fr, _, rfl, .inl ⟨SqL.of hfr13, fun t14 ht14 => ⟨slr rfl, fun p hp => ⟨slr rfl, fun a ha => ⟨_, rfl, ?_⟩⟩⟩⟩⟩
    have ea := ((Same.new ht14 (.tup (zs.map V.str))).trans (Same.new hp (.tup [.str "pick", .int (1 + r3), .str w13, .ref u7, .ref t14]))).trans (Same.new ha (.tup [.ref p]))
    have hS : IsS _ (.pick (1 + r3) w13 us zs) (.ref p) := ⟨p, _, _, rfl, Same.new ha (.tup [.ref p]) _ _ upd_same, ⟨u7, rfl, ea _ _ hu13⟩, ⟨t14, rfl, Same.new ha (.tup [.ref p]) _ _ (Same.new hp (.tup [.str "pick", .int (1 + r3), .str w13, .ref u7, .ref t14]) _ _ upd_same)⟩⟩
    refine cat_ls upd_same hS (hs.keep (kt12.trans ea.kt)) (by omega) fun t' H' hs' e' => q13 t' H' _ hs' ?_ ?_ ?_ ((ea.trans e').apart) (B13.same (ea.trans e'))
    · simp only [depL, depS]
      omega
    · simp only [wtL, wtS]
      omega
    · show ss.length + 1 ≤ _
      omega
  rintro σ' H' ⟨rfl, he⟩
  have he := he.symm
  subst he
  refine ⟨_, rfl, rfl, _, rfl, ?_⟩
  refine ite2 (fun _ => ?_) (fun _ => ?_)
  · refine ⟨_, rfl, _, rfl, _, rfl, b, l, po, lf, ps, ls, 1, rfl, E8.bag, E8.po, hlf, by omega, by omega, E8.ok.nodup, by omega, fun fr H9 zs ap9 B9 hfr0 hfr hzl hznd hzin => ?_⟩
    match zs, hzl, hfr, hzin with
    | [z1], _, hfr, hzin =>
    have E9 := E8.go ap9 B9
    have q9 := q8.go ap9
    have hlf9 := E8.bag.st ap9 hlf
    have hu9 := ap9.kt E8.bag _ _ hu8
    refine ⟨fr, _, _, _, rfl, rfl, SqL.of hfr, at_of (j := 0) rfl rfl, ?_⟩
    refine ⟨_, rfl, _, rfl, slr rfl, fun p hp => ⟨slr rfl, fun a ha => ?_⟩⟩
    have ea := (Same.new hp (.tup [.str "join", .ref u7, .str z1])).trans (Same.new ha (.tup [.ref p]))
    have E10 := E9.go ea.apart (E9.bag.same ea)
    have q10 := q9.go ea.apart
    have hlf10 := ea _ _ hlf9
    have hS : IsS _ (.join us z1) (.ref p) := ⟨p, _, rfl, Same.new ha (.tup [.ref p]) _ _ upd_same, ⟨u7, rfl, ea _ _ hu9⟩⟩
    have hA : upd (upd H9 p (.tup [.str "join", .ref u7, .str z1])) a (.tup [.ref p]) a = some (.tup [.ref p]) := upd_same
    generalize upd (upd H9 p (.tup [.str "join", .ref u7, .str z1])) a (.tup [.ref p]) = H10 at *
    refine ⟨_, rfl, _, rfl, _, rfl, _, rfl, _, rfl, slr rfl, fun l11 hl11 => ⟨lf, l11, _, _, rfl, rfl, Same.new hl11 _ _ _ hlf10, upd_same, sl_small (by rw [List.length_map]; show ls.length + 1 ≤ 100000; omega), fun l12 hl12 => ?_⟩⟩
    have e12 := (Same.new hl11 (.lst [.str z1])).trans (Same.new hl12 (.lst (ls.map V.str ++ [.str z1])))
    have E12 := E10.go e12.apart (E10.bag.same e12)
    have q12 := q10.go e12.apart
    refine ⟨_, rfl, _, _, rfl, rfl, _, rfl, r - 1, by omega, b, l, po, l12, m, _, _, ps, ls ++ [z1], rfl, ⟨E12.bag, E12.po, by rw [upd_same, List.map_append]; rfl, E12.ok, nl.app (E12.ok.nm.sub fun y hy => (hzin y hy).1)⟩, ⟨m0, m5⟩, by rw [List.length_append]; show ls.length + 1 + (r - 1) ≤ 8; omega, by show room - 1 ≤ _; omega, ⟨w0, w7⟩, fun t H13 ss hs d1 w1 n1 ap13 B13 => ?_⟩
    have q13 := q12.go ap13
    have kt := e12.kt.trans (ap13.kt E12.bag)
    refine cat_ls (kt _ _ hA) (hS.keep kt) hs (by omega) fun t' H' hs' e' => q13 t' H' _ hs' ?_ ?_ ?_ e'.apart (B13.same e')
    · simp only [depL, depS]
      omega
    · simp only [wtL, wtS]
      omega
    · show ss.length + 1 ≤ _
      omega
  refine ⟨_, rfl, _, rfl, sh, _, _, _, rfl, rfl, SqL.of hsh8, at_of (j := 0) rfl (by rw [List.getElem?_map, hy0]; rfl), _, rfl, slr rfl, fun p1 hp1 => ?_⟩
  have e9 := Same.new hp1 (.tup [.str "give", .str y0, .int (1 + r3)])
  refine ⟨_, rfl, sh, _, _, _, rfl, rfl, SqL.of (e9 _ _ hsh8), at_of (j := 0) rfl (by rw [List.getElem?_map, hy0]; rfl), slr rfl, fun p2 hp2 => ⟨slr rfl, fun l3 hl3 => ?_⟩⟩
  have e92 := e9.trans (Same.new hp2 (.tup [.str "drop", .str y0]))
  have e10 := e92.trans (Same.new hl3 (.lst [.ref p1, .ref p2]))
  have E10 := E8.go e10.apart (E8.bag.same e10)
  have q10 := q8.go e10.apart
  have hsh10 := e10 _ _ hsh8
  have hg1 : IsS (upd (upd (upd H8 p1 (.tup [.str "give", .str y0, .int (1 + r3)])) p2 (.tup [.str "drop", .str y0])) l3 (.lst [.ref p1, .ref p2])) (.give y0 (1 + r3)) (.ref p1) := ⟨p1, rfl, Same.new hl3 (.lst [.ref p1, .ref p2]) _ _ (Same.new hp2 (.tup [.str "drop", .str y0]) _ _ upd_same)⟩
  have hg2 : IsS (upd (upd (upd H8 p1 (.tup [.str "give", .str y0, .int (1 + r3)])) p2 (.tup [.str "drop", .str y0])) l3 (.lst [.ref p1, .ref p2])) (.drop y0) (.ref p2) := ⟨p2, rfl, Same.new hl3 (.lst [.ref p1, .ref p2]) _ _ upd_same⟩
  refine ⟨b, l, l3, _, rfl, E10.bag, SqL.of upd_same, (E8.bag.same e92).ne hl3, by show 0 < 2; decide, by show 2 ≤ 1000; decide, fun i11 v11 H11 hv11 ap11 B11 => ?_⟩
  have E11 := E10.go ap11 B11
  have q11 := q10.go ap11
  have hsh11 := E10.bag.st ap11 hsh10
  obtain ⟨s11, hS, dS, wS⟩ : ∃ s : Stm, IsS H11 s v11 ∧ depS s = 0 ∧ wtS s = 0 := by
    have kt := ap11.kt E10.bag
    match i11, hv11 with
    | 0, hv => cases hv; exact ⟨_, hg1.keep kt, rfl, rfl⟩
    | 1, hv => cases hv; exact ⟨_, hg2.keep kt, rfl, rfl⟩
  refine ⟨_, rfl, slr rfl, fun a ha => ?_⟩
  have ea := Same.new ha (.tup [v11])
  have E12 := E11.go ea.apart (B11.same ea)
  have q12 := q11.go ea.apart
  have hsh12 := ea _ _ hsh11
  have hS12 := hS.keep ea.kt
  have hA : upd H11 a (.tup [v11]) a = some (.tup [v11]) := upd_same
  generalize upd H11 a (.tup [v11]) = H12 at *
  refine ⟨_, rfl, _, rfl, _, rfl, _, rfl, _, rfl, _, rfl, sh, _, rfl, SqL.of hsh12, fun g13 hg13 => ⟨pr, g13, qs, ys.take 1, rfl, Same.new hg13 _ _ _ E12.pr, .inl (by rw [← c1]; exact SqL.of upd_same), by omega, fun lf2 H14 e14 hlf20 hlf2 => ?_⟩⟩
  have e13 := (Same.new hg13 (.lst (cutV (ys.map V.str) none (some 1)))).trans e14
  have E14 := E12.go e13.apart (E12.bag.same e13)
  have q14 := q12.go e13.apart
  have nl2 : NmL (qs.filter fun x => !decide (x ∈ ys.take 1)) := E14.nm.sub fun y hy => (List.mem_filter.mp hy).1
  refine ⟨_, rfl, _, _, rfl, rfl, _, rfl, r - 1, by omega, b, l, po, lf2, m, _, _, ps, _, rfl, ⟨E14.bag, E14.po, hlf2, E14.ok, nl2⟩, ⟨m0, m5⟩, by omega, by show room - 1 ≤ _; omega, ⟨w0, w7⟩, fun t H15 ss hs d1 w1 n1 ap15 B15 => ?_⟩
  have q15 := q14.go ap15
  have kt := e13.kt.trans (ap15.kt E14.bag)
  refine cat_ls (kt _ _ hA) (hS12.keep kt) hs (by omega) fun t' H' hs' e' => q15 t' H' _ hs' ?_ ?_ ?_ e'.apart (B15.same e')
  · simp only [depL]
    omega
  · simp only [wtL]
    omega
  · show ss.length + 1 ≤ _
    omega
end

-- CUT7
section
variable {P : Program} {w : World} {K : PySem.W.Frag} {mg : Str → Option Value} {base : Heap} {A : Ad}
theorem all_lines (T : Txt K mg A) : ∀ r : Nat, FnOk P w K mg base CX0 (2 * r + 5) A.f_lines A.fd_lines ["_law_bag_here", "_law_players", "_law_pool_here", "_law_present", "_law_room", "_law_wide"] (spLines r)
  | 0 => ok_lines_step T 0 3 (by omega) ⟨fun _ _ _ _ h => by obtain ⟨m, h, _⟩ := h; exact absurd h (by omega), fun _ _ _ _ _ _ _ _ _ _ _ _ _ h => by obtain ⟨m, h, _⟩ := h; exact absurd h (by omega)⟩
    (ok_ask T 0 3 (by omega) ⟨fun _ _ _ _ h => by obtain ⟨m, h, _⟩ := h; exact absurd h (by omega), fun _ _ _ _ _ _ _ _ _ _ _ _ _ h => by obtain ⟨m, h, _⟩ := h; exact absurd h (by omega)⟩)
  | r + 1 => by
    have ih : FnOk P w K mg base CX0 (2 * r + 5) A.f_lines A.fd_lines ["_law_bag_here", "_law_players", "_law_pool_here", "_law_present", "_law_room", "_law_wide"] (fun vs H Q E => ∃ m, r + 1 = m + 1 ∧ spLines m vs H Q E) := (all_lines T r).imp fun vs H Q E h => by
      obtain ⟨m, e, h⟩ := h
      have : m = r := by omega
      subst this
      exact h
    exact ok_lines_step T (r + 1) (2 * r + 5) (by omega) ih (ok_ask T (r + 1) (2 * r + 5) (by omega) ih)
theorem ok_lines (T : Txt K mg A) : FnOk P w K mg base CX0 17 A.f_lines A.fd_lines ["_law_bag_here", "_law_players", "_law_pool_here", "_law_present", "_law_room", "_law_wide"] (spLines 6) := all_lines T 6
def spDrawn : Sp := fun vs H Q _ => ∃ (b l : Addr) (most room wide : Int), vs = [.ref b, .int most, .int room, .int wide] ∧ Bag H b l ∧ (0 < most ∧ most ≤ 5) ∧ (0 < room ∧ room ≤ 6) ∧ (0 ≤ wide ∧ wide ≤ 7) ∧
  ∀ (p t : Addr) (n : Int) (H' : Hp) (ss : List Stm), H' p = some (.tup [.int n, .ref t]) → IsLs H' ss t → depL ss ≤ 6 → wtL ss ≤ 252 → ss.length ≤ 106 → Apart b H H' → Bag H' b l → Q (.ref p) H'
theorem ok_drawn (T : Txt K mg A) : FnOk P w K mg base CX0 18 A.f_drawn A.fd_drawn ["_law_bag_here", "_law_most", "_law_room", "_law_wide"] spDrawn := by
  refine T.d_drawn.F.ok sc_drawn (fun vs H Q E h => ?_) (fun cdv ar outer s H vs Q E hr h => ?_)
  · obtain ⟨b, l, most, room, wide, rfl, _⟩ := h
    rfl
  obtain ⟨b, l, most, room, wide, rfl, B, ⟨m0, m5⟩, ⟨r0, r6⟩, ⟨w0, w7⟩, q⟩ := h
  refine ⟨_, (pss_cons (ps_set (i := 4) sc_drawn.nd rfl (Or.inl rfl) (pe_op op_add pe_int (pe_call (ok_pull T) (hr.mono (by decide)) rfl T.d_pull.m T.d_pull.F.kp T.d_pull.b .nil pass0 (pa_cons (pv 0) (pa_cons (pv 1) pa_nil)))))
    (pss_cons (ps_set (i := 5) sc_drawn.nd rfl (Or.inl rfl) (pe_call (ok_pieces T) (hr.mono (by decide)) rfl T.d_pieces.m T.d_pieces.F.kp T.d_pieces.b .nil pass0 (pa_cons (pv 0) pa_nil)))
    (pss_one (ps_ret (pe_tup (pa_cons (pv 4) (pa_cons (pe_call (ok_lines T) (hr.mono (by decide)) rfl T.d_lines.m T.d_lines.F.kp T.d_lines.b .nil pass0 (pa_cons (pv 0) (pa_cons (pv 4) (pa_cons (pv 5) (pa_cons (pe_lst (pa_cons pe_str pa_nil)) (pa_cons (pe_op op_add pe_int (pe_call (ok_pull T) (hr.mono (by decide)) rfl T.d_pull.m T.d_pull.F.kp T.d_pull.b .nil pass0 (pa_cons (pv 0) (pa_cons (pv 2) pa_nil)))) (pa_cons (pv 3) pa_nil))))))) pa_nil))))))), ?_⟩
  refine ⟨_, rfl, _, rfl, b, l, most, rfl, B, m0, p200 (by omega), fun n H1 n0 n1 ap1 B1 => ⟨_, _, rfl, rfl, ?_⟩⟩
  refine ⟨_, rfl, b, l, rfl, B1, fun po H2 ps ok ap2 B2 hpo0 hpo => ?_⟩
  refine ⟨_, rfl, _, rfl, _, rfl, _, rfl, slr rfl, fun l3 hl3 => ?_⟩
  have e3 := Same.new hl3 (.lst [.str "whole"])
  refine ⟨_, rfl, _, rfl, b, l, room, rfl, B2.same e3, r0, p200 (by omega), fun k H4 k0 k1 ap4 B4 => ⟨_, _, rfl, rfl, _, rfl, ?_⟩⟩
  have h34 := ap4 _ _ (B2.ne hl3) upd_same
  have nw : NmL ["whole"] := fun x hx => by
    rw [List.mem_singleton.mp hx]
    exact ⟨by decide, by decide +kernel⟩
  refine ⟨b, l, po, l3, 1 + n, 1 + k, wide, ps, ["whole"], rfl, ⟨B4, (B2.same e3).st ap4 (e3 _ _ hpo), h34, ok, nw⟩, ⟨by omega, by omega⟩, by decide, by omega, ⟨w0, w7⟩, fun t H5 ss hs d1 w1 n1 ap5 B5 => ⟨slr rfl, fun p hp => ?_⟩⟩
  have e6 := Same.new hp (.tup [.int (1 + n), .ref t])
  exact q p t (1 + n) _ ss upd_same (hs.keep e6.kt) d1 (by omega) n1 (ap1.trans (ap2.trans (e3.apart.trans (ap4.trans (ap5.trans e6.apart))))) (B5.same e6)
end

-- CUT8
/-! ## tuple * int, whole -/
namespace RepT
open PySem.Spec PyProof.Rows
theorem tuple_mul1 (l : Addr) (items : Array Value) (n : Nat) (dd : Option Addr) (sl : Array (Option Value)) (x : Int) (u : Tok) (c0 : (decide (x < -(2 ^ 63)) || decide (x ≥ 2 ^ 63)) = false) (c1 : (items.isEmpty || x == 1) = true) :
    Meets (Builtin.«tuple.__mul__» ⟨[.ref l, .int x u], []⟩) (fun _ R s => s.heap.get? l = some { cls := .type "tuple", dict := dd, data := .seq items n, slots := sl } ∧
      R (.ok (.ret (Value.ref l))) s) :=
  .of_wp fun prog w A R s h => by
    obtain ⟨hp, g, d, tk, os⟩ := s
    obtain ⟨hl, h⟩ := h
    have f1 := AutoSeq1.idx_int
    wp_walk using wpAny_loadPart' hl
    repeat (first
      | (refine wpAny_ite_false (decide_eq_false (by rw [c0]; exact Bool.false_ne_true)) ?_; wp_walk using wpAny_loadPart' hl)
      | (refine wpAny_ite_true (decide_eq_true c1) ?_; wp_walk using wpAny_loadPart' hl))
    exact ⟨_, rfl, h⟩
def rRepA (K : PySem.W.Frag) : R2 := fun x y H Q => ∃ l k xs, x = .ref l ∧ y = .int k ∧ SqT K H l xs ∧ 1 ≤ k ∧ k ≤ 1000 ∧ xs.length ≤ 1000 ∧ ((xs = [] ∨ k = 1) → Q (.ref l) H) ∧ (xs ≠ [] → 2 ≤ k → ∀ p, H p = none → Q (.ref p) (upd H p (.tup (List.replicate k.toNat xs).flatten)))
section
variable {X : Cx}
theorem op_repA : OpR X (binaryOp .Mult) (rRepA X.K) := by
  intro pins s σ H x y v u Q I rx ry h
  obtain ⟨l, k, xs, rfl, rfl, hT, h1, h2, hz, q1, q2⟩ := h
  by_cases hc1 : xs = [] ∨ k = 1
  · cases rx
    obtain ⟨t, rfl⟩ := ry
    obtain ⟨its, r, ⟨⟨cls, dd, data, sl⟩, ho, hc, n, hd⟩, hs⟩ := I.tuple hT
    simp only at hc hd
    subst hc hd
    have hle : its.length = xs.length := r.length.symm
    have c0 : (decide (k < -(2 ^ 63)) || decide (k ≥ 2 ^ 63)) = false := by
      rw [decide_eq_false (by omega), decide_eq_false (by omega)] <;> rfl
    have c1 : (its.toArray.isEmpty || k == 1) = true := by
      rcases hc1 with e | e
      · rw [e] at hle
        rw [List.eq_nil_of_length_eq_zero (l := its) hle]
        rfl
      · rw [e]
        simp
    exact wpAny_binaryOp_repeat_ref (T := "tuple") (U := "int") (by decide) ⟨_, ho, rfl⟩ (fun s' => typeIs_int s' k t) noFill_tuple_mul F.fills_int_mul F.slot_int_rmul repeat_tuple F.slot_int_index.lookup
      (call_meets F.slot_int_rmul (typeIs_int s k t) F.entry_int_rmul (F.args_int_rmul_2 _ _) (int_rmul_tuple k t l its.toArray n dd sl)
        ⟨ho, rfl, ⟨_, ho, rfl⟩, call_meets F.slot_tuple_mul ⟨_, ho, rfl⟩ F.entry_tuple_mul (F.args_tuple_mul_2 _ _) (tuple_mul1 l its.toArray n dd sl k t c0 c1) ⟨ho, ⟨.ref l, H, I, rfl, q1 hc1⟩⟩⟩)
  · have hne : xs ≠ [] := fun e => hc1 (.inl e)
    have hk : 2 ≤ k := by
      have : k ≠ 1 := fun e => hc1 (.inr e)
      omega
    exact op_repT pins s σ H _ _ v u Q I rx ry ⟨l, k, xs, rfl, rfl, hT, hne, hk, h2, hz, q2 hne hk⟩
end
end RepT

/-! ## The law -/
theorem IsAll.rep {H : Hp} {ss : List Stm} {us : List V} (h : IsAll H ss us) : ∀ k : Nat, IsAll H (List.replicate k ss).flatten (List.replicate k us).flatten
  | 0 => rfl
  | k + 1 => by
    rw [List.replicate_succ, List.replicate_succ, List.flatten_cons, List.flatten_cons]
    exact h.app (IsAll.rep h k)
theorem dep_rep {ss : List Stm} : ∀ k : Nat, depL (List.replicate k ss).flatten ≤ depL ss
  | 0 => Nat.zero_le _
  | k + 1 => by
    rw [List.replicate_succ, List.flatten_cons, dep_app]
    have := dep_rep (ss := ss) k
    omega
theorem wt_rep {ss : List Stm} : ∀ k : Nat, wtL (List.replicate k ss).flatten = k * wtL ss
  | 0 => by simp [wtL]
  | k + 1 => by
    rw [List.replicate_succ, List.flatten_cons, wt_app, wt_rep k, Nat.succ_mul]
    omega
theorem ways_rep {ss : List Stm} : ∀ k : Nat, ways (List.replicate k ss).flatten = ways ss ^ k
  | 0 => by simp [ways]
  | k + 1 => by
    rw [List.replicate_succ, List.flatten_cons, ways_app, ways_rep k, Nat.pow_succ, Nat.mul_comm]
theorem len_rep {α : Type} {ss : List α} : ∀ k : Nat, (List.replicate k ss).flatten.length = k * ss.length
  | 0 => by simp
  | k + 1 => by
    rw [List.replicate_succ, List.flatten_cons, List.length_append, len_rep k, Nat.succ_mul]
    omega
theorem rep_one {α : Type} (ss : List α) : (List.replicate 1 ss).flatten = ss := by simp
theorem rep_nil {α : Type} (k : Nat) : (List.replicate k ([] : List α)).flatten = [] := by
  induction k with
  | zero => rfl
  | succ k ih => rw [List.replicate_succ, List.flatten_cons, ih]; rfl
theorem rep_ls {K : PySem.W.Frag} {H : Hp} {Q : VK} {t : Addr} {ss : List Stm} {k : Int} (ht : IsLs H ss t) (h1 : 1 ≤ k) (h2 : k ≤ 1000) (hl : ss.length ≤ 1000) (q : ∀ t' H', IsLs H' (List.replicate k.toNat ss).flatten t' → Same H H' → Q (.ref t') H') : RepT.rRepA K (.ref t) (.int k) H Q := by
  obtain ⟨us, h, hA⟩ := ht
  have hlu := hA.len
  refine ⟨t, k, us, rfl, rfl, SqT.of h, h1, h2, by omega, fun c => ?_, fun _ _ p hp => ?_⟩
  · rcases c with c | c
    · subst c
      have e : ss = [] := List.eq_nil_of_length_eq_zero hlu
      subst e
      exact q t H (by rw [rep_nil]; exact ⟨[], h, hA⟩) (Same.refl H)
    · subst c
      exact q t H (by rw [show (1 : Int).toNat = 1 from rfl, rep_one]; exact ⟨us, h, hA⟩) (Same.refl H)
  · exact q p _ ⟨_, upd_same, (hA.rep k.toNat).keep (Same.new hp _).kt⟩ (Same.new hp _)
theorem catA_ls {K : PySem.W.Frag} {H : Hp} {Q : VK} {t u : Addr} {ss rs : List Stm} (ht : IsLs H ss t) (hu : IsLs H rs u) (h1 : ss.length ≤ 10000) (h2 : rs.length ≤ 10000) (q : ∀ t' H', IsLs H' (ss ++ rs) t' → Same H H' → Q (.ref t') H') : rCatA K (.ref t) (.ref u) H Q := by
  obtain ⟨us, h, hA⟩ := ht
  obtain ⟨ws, g, hB⟩ := hu
  have l1 := hA.len
  have l2 := hB.len
  refine ⟨t, u, us, ws, rfl, rfl, SqT.of h, SqT.of g, sl_small (by omega), fun c => ?_, fun _ c => ?_, fun _ _ p hp => ?_⟩
  · subst c
    have e : ss = [] := List.eq_nil_of_length_eq_zero l1
    subst e
    exact q u H ⟨ws, g, hB⟩ (Same.refl H)
  · subst c
    have e : rs = [] := List.eq_nil_of_length_eq_zero l2
    subst e
    exact q t H (by rw [List.append_nil]; exact ⟨us, h, hA⟩) (Same.refl H)
  · exact q p _ ⟨_, upd_same, (hA.app hB).keep (Same.new hp _).kt⟩ (Same.new hp _)
theorem cut_takeV (xs : List V) (k : Nat) : cutV xs none (some ((k : Nat) : Int)) = xs.take k := by
  unfold cutV
  rw [HT.sIx_nat, HT.sIx_none, List.drop_zero, Nat.sub_zero]
  rcases Nat.le_total k xs.length with h | h
  · rw [Nat.min_eq_left h]
  · rw [Nat.min_eq_right h, List.take_length, List.take_of_length_le h]
theorem slA_ls {K : PySem.W.Frag} {H : Hp} {Q : VK} {t : Addr} {ss : List Stm} (ht : IsLs H ss t) (q : ∀ t' H', IsLs H' (ss.take 2) t' → Same H H' → Q (.ref t') H') : rSlA K (.ref t) none (some 2) H Q := by
  obtain ⟨us, h, hA⟩ := ht
  have hl := hA.len
  refine ⟨t, us, rfl, SqT.of h, fun c => ?_, fun _ p hp => ?_⟩
  · have c2 : HT.sIx us.length us.length (some ((2 : Nat) : Int)) = us.length := c.2
    rw [HT.sIx_nat] at c2
    exact q t H (by rw [List.take_of_length_le (by omega)]; exact ⟨us, h, hA⟩) (Same.refl H)
  · have e : cutV us none (some 2) = us.take 2 := cut_takeV us 2
    rw [e]
    exact q p _ ⟨_, upd_same, (hA.takeN 2).keep (Same.new hp _).kt⟩ (Same.new hp _)
def spLaw (K : PySem.W.Frag) : Sp := fun vs H Q _ => ∃ (a : Addr) (ns : List Int), vs = [.ref a] ∧ SqL K H a (ns.map V.int) ∧ ns.length ≤ 63 ∧ ∀ H', Q (.bl true) H'
def half : Rat := ⟨1, 2, by decide, by decide⟩
section
variable {P : Program} {w : World} {K : PySem.W.Frag} {mg : Str → Option Value} {base : Heap} {A : Ad}
theorem ok_law (T : Txt K mg A) : FnOk P w K mg base CX0 43 A.f_law A.fd_law ["_law_script"] (spLaw K) := by
  refine T.d_law.F.ok sc_law (fun vs H Q E h => ?_) (fun cdv ar outer s H vs Q E hr h => ?_)
  · obtain ⟨a, ns, rfl, _⟩ := h
    rfl
  obtain ⟨a, ns, rfl, hS, h63, q⟩ := h
  refine ⟨_, (pss_cons (ps_set (i := 1) sc_law.nd rfl (Or.inl rfl) (pe_call (ok_bag T) (hr.mono (by decide)) rfl T.d_bag.m T.d_bag.F.kp T.d_bag.b .nil pass0 (pa_cons (pv 0) pa_nil)))
    (pss_cons (ps_for PassesOwn.never rfl (pi_range1 rfl T.range (pa_cons pe_int pa_nil)) (pg_name (i := 2) sc_law.nd rfl (Or.inl rfl)) (pss_cons (ps_asg (pe_call (ok_drawn T) (hr.mono (by decide)) rfl T.d_drawn.m T.d_drawn.F.kp T.d_drawn.b .nil pass0 (pa_cons (pv 1) (pa_cons pe_int (pa_cons pe_int (pa_cons pe_int pa_nil))))) (pg_tup rfl (pgs_cons (pg_name (i := 3) sc_law.nd rfl (Or.inl rfl)) (pgs_cons (pg_name (i := 4) sc_law.nd rfl (Or.inl rfl)) pgs_nil))))
    (pss_cons (ps_set (i := 4) sc_law.nd rfl (Or.inl rfl) (pe_op RepT.op_repA (pv 4) (pe_op op_add pe_int (pe_call (ok_pull T) (hr.mono (by decide)) rfl T.d_pull.m T.d_pull.F.kp T.d_pull.b .nil pass0 (pa_cons (pv 1) (pa_cons pe_int pa_nil))))))
    (pss_cons (ps_set (i := 5) sc_law.nd rfl (Or.inl rfl) (pe_ix (r := rIxT K) ix_tup (pe_call (ok_drawn T) (hr.mono (by decide)) rfl T.d_drawn.m T.d_drawn.F.kp T.d_drawn.b .nil pass0 (pa_cons (pv 1) (pa_cons pe_int (pa_cons pe_int (pa_cons pe_int pa_nil))))) pe_int (fun _ _ => rfl)))
    (pss_cons (ps_for PassesOwn.never rfl (pi_range1 rfl T.range (pa_cons (pe_call (ok_pull T) (hr.mono (by decide)) rfl T.d_pull.m T.d_pull.F.kp T.d_pull.b .nil pass0 (pa_cons (pv 1) (pa_cons pe_int pa_nil))) pa_nil)) (pg_name (i := 6) sc_law.nd rfl (Or.inl rfl)) (pss_one (ps_set (i := 4) sc_law.nd rfl (Or.inl rfl) (pe_op op_catA (pe_op op_catA (pv 5) (pe_tup (pa_cons (pe_tup (pa_cons pe_str (pa_cons pe_int (pa_cons pe_str (pa_cons (pe_tup (pa_cons pe_int (pa_cons pe_int pa_nil))) (pa_cons pe_str (pa_cons (pv 4) (pa_cons (pv 5) pa_nil)))))))) pa_nil))) (pe_slice (r := rSlA K) sl_tupA (pv 4) po_none (po_some pe_int))))))
    (pss_one (ps_if (pt_not (pt_val (pe_call (ok_same T) (hr.mono (by decide)) rfl T.d_same.m T.d_same.F.kp T.d_same.b .nil pass0 (pa_cons (pe_lst (pa_cons (pe_call (ok_ways_through T) (hr.mono (by decide)) rfl T.d_ways_through.m T.d_ways_through.F.kp T.d_ways_through.b .nil pass0 (pa_cons (pv 4) pa_nil)) (pa_cons (pe_call (ok_ways_through T) (hr.mono (by decide)) rfl T.d_ways_through.m T.d_ways_through.F.kp T.d_ways_through.b .nil pass0 (pa_cons (pe_callTy (r := rListK K) call_list_of (by rfl) T.list (by decide +kernel) (pa_cons (pv 4) pa_nil)) pa_nil)) (pa_cons (pe_call (ok_ways_through T) (hr.mono (by decide)) rfl T.d_ways_through.m T.d_ways_through.F.kp T.d_ways_through.b .nil pass0 (pa_cons (pv 5) pa_nil)) pa_nil)))) (pa_cons (pe_lst (pa_cons (pe_call (ok_ways T) (hr.mono (by decide)) rfl T.d_ways.m T.d_ways.F.kp T.d_ways.b .nil pass0 (pa_cons (pv 4) pa_nil)) (pa_cons (pe_call (ok_ways T) (hr.mono (by decide)) rfl T.d_ways.m T.d_ways.F.kp T.d_ways.b .nil pass0 (pa_cons (pv 4) pa_nil)) (pa_cons (pe_call (ok_ways T) (hr.mono (by decide)) rfl T.d_ways.m T.d_ways.F.kp T.d_ways.b .nil pass0 (pa_cons (pv 5) pa_nil)) pa_nil)))) pa_nil))))) (pss_one (ps_ret pe_bl)) pss_nil)))))))
    (pss_cons (ps_set (i := 7) sc_law.nd rfl (Or.inl rfl) (pe_op RepT.op_repA (pe_tup (pa_cons (pe_tup (pa_cons pe_str (pa_cons pe_int (pa_cons pe_str (pa_cons (pe_tup (pa_cons pe_str (pa_cons pe_str (pa_cons pe_str (pa_cons pe_str pa_nil))))) (pa_cons (pe_tup (pa_cons pe_str (pa_cons pe_str (pa_cons pe_str (pa_cons pe_str pa_nil))))) pa_nil)))))) pa_nil)) pe_int))
    (pss_one (ps_ret (pe_and (pe_cmpR op_eq (pe_call (ok_ways_through T) (hr.mono (by decide)) rfl T.d_ways_through.m T.d_ways_through.F.kp T.d_ways_through.b .nil pass0 (pa_cons (pv 7) pa_nil)) (pe_op op_pow pe_int pe_int) (nomark _)) (pe_one (pe_cmpR op_eq (pe_call (ok_ways_through T) (hr.mono (by decide)) rfl T.d_ways_through.m T.d_ways_through.F.kp T.d_ways_through.b .nil pass0 (pa_cons (pe_lst pa_nil) pa_nil)) pe_int (nomark _))))))))), ?_⟩
  refine ⟨_, rfl, a, ns, rfl, hS, h63, fun b l H1 e1 hb hl B => ?_⟩
  refine ⟨3, rfl, by decide, by decide, ?_⟩
  refine for_range (lo := 0) (n := 3) (fun i σ H' => Bag H' b l ∧ ∃ (u0 u2 u3 u4 u5 u6 u7 : Option V), σ = [u0, some (.ref b), u2, u3, u4, u5, u6, u7]) ⟨B, _, _, _, _, _, _, _, rfl⟩ ?_ ?_
  · clear B e1 hb hl H1
    rintro i σ H1 hi ⟨B, u0, u2, u3, u4, u5, u6, u7, rfl⟩
    refine ⟨_, rfl, b, l, 5, 6, 7, rfl, B, ⟨by decide, by decide⟩, ⟨by decide, by decide⟩, ⟨by decide, by decide⟩, fun p t n H2 ss hp hs d1 w1 n1 ap2 B2 => ⟨p, _, rfl, SqT.of hp, rfl, _, _, rfl, _, _, rfl, rfl, ?_⟩⟩
    refine ⟨_, rfl, _, rfl, b, l, 6, rfl, B2, by decide, p200 (by decide), fun k H3 k0 k1 ap3 B3 => ⟨_, _, rfl, rfl, ?_⟩⟩
    refine rep_ls (hs.keep (ap3.kt B2)) (by omega) (by omega) (by omega) fun t4 H4 hs4 e4 => ?_
    have hk6 : (1 + k).toNat ≤ 6 := by omega
    have d4 := dep_rep (ss := ss) (1 + k).toNat
    have w4 : wtL (List.replicate (1 + k).toNat ss).flatten ≤ 6 * 252 := by
      rw [wt_rep]
      exact Nat.mul_le_mul hk6 w1
    have n4 : (List.replicate (1 + k).toNat ss).flatten.length ≤ 6 * 106 := by
      rw [len_rep]
      exact Nat.mul_le_mul hk6 n1
    generalize (List.replicate (1 + k).toNat ss).flatten = rs at *
    have B4 := B3.same e4
    refine ⟨_, rfl, b, l, 2, 4, 7, rfl, B4, ⟨by decide, by decide⟩, ⟨by decide, by decide⟩, ⟨by decide, by decide⟩, fun p5 t5 n5 H5 ms hp5 hs5 d5 w5 l5 ap5 B5 => ⟨p5, _, _, _, rfl, rfl, SqT.of hp5, at_of (j := 1) rfl rfl, ?_⟩⟩
    refine ⟨_, rfl, b, l, 4, rfl, B5, by decide, p200 (by decide), fun r H6 r0 r1 ap6 B6 => ⟨r, rfl, by omega, by omega, ?_⟩⟩
    have hs6 := (hs4.keep (ap5.kt B4)).keep (ap6.kt B5)
    have hm6 := hs5.keep (ap6.kt B5)
    clear hs hp hp5 hs4 hs5 B B2 B3 B4 B5 e4 ap2 ap3 ap5 ap6
    refine for_range (lo := 0) (n := r.toNat) (fun j σ H' => Same H6 H' ∧ ∃ (t' : Addr) (rs' : List Stm) (u6 : Option V), σ = [u0, some (.ref b), some (.int (0 + (i : Int))), some (.int n), some (.ref t'), some (.ref t5), u6, u7] ∧ IsLs H' rs' t' ∧ depL rs' ≤ 6 + j ∧ wtL rs' + 757 ≤ 2269 * 2 ^ j ∧ rs'.length ≤ 700)
      ⟨Same.refl H6, t4, rs, u6, rfl, hs6, by omega, by omega, by omega⟩ ?_ ?_
    · rintro j σ H7 hj ⟨e7, t', rs', u6, rfl, hs7, d7, w7, n7⟩
      have hm7 := hm6.keep e7.kt
      refine ⟨_, rfl, slr rfl, fun p8 hp8 => ⟨_, rfl, _, rfl, slr rfl, fun p9 hp9 => ⟨slr rfl, fun a10 ha10 => ?_⟩⟩⟩
      have e8 := Same.new hp8 (.tup [.int 1, .int 2])
      have e9 := Same.new hp9 (.tup [.str "ask", .int 1, .str "a", .ref p8, .str "b", .ref t', .ref t5])
      have e10 := Same.new ha10 (.tup [.ref p9])
      have e81 := e8.trans (e9.trans e10)
      have hs10 := hs7.keep e81.kt
      have hm10 := hm7.keep e81.kt
      have hS : IsLs _ [.ask 1 "a" half "b" rs' ms] a10 := ⟨[.ref p9], upd_same, IsAll.one ⟨p9, .ref p8, t', t5, rfl, e10 _ _ upd_same, ⟨p8, rfl, e10 _ _ (e9 _ _ upd_same)⟩, hs10, hm10⟩⟩
      refine catA_ls hm10 hS (by omega) (by show 1 ≤ _; decide) fun t11 H11 hs11 e11 => ?_
      refine ⟨_, rfl, _, rfl, slA_ls (hs10.keep e11.kt) fun t12 H12 hs12 e12 => ?_⟩
      have hl2 : (rs'.take 2).length ≤ 2 := by rw [List.length_take]; omega
      refine catA_ls (hs11.keep e12.kt) hs12 (by rw [List.length_append]; show ms.length + 1 ≤ _; omega) (by omega) fun t13 H13 hs13 e13 => ?_
      have hd2 := dep_take 2 rs'
      have hw2 := wt_take 2 rs'
      refine ⟨e7.trans (e81.trans (e11.trans (e12.trans e13))), t13, _, _, rfl, hs13, ?_, ?_, ?_⟩
      · rw [dep_app, dep_app]
        simp only [depL, depS]
        omega
      · rw [wt_app, wt_app, Nat.pow_succ]
        simp only [wtL, wtS]
        omega
      · rw [List.length_append, List.length_append]
        show ms.length + 1 + _ ≤ _
        omega
    · rintro σ H7 ⟨e7, t', rs', u6, rfl, hs7, d7, w7, n7⟩
      have hm7 := hm6.keep e7.kt
      have B7 := B6.same e7
      have hp3 : 2 ^ r.toNat ≤ 2 ^ 3 := Nat.pow_le_pow_right (by decide) (by omega)
      have w8 : wtL rs' ≤ 400000 := by omega
      have d8 : depL rs' ≤ 20 := by omega
      clear w7 d7 hs6 hm6 w4 d4 n4
      obtain ⟨us, hus, hA⟩ := hs7
      obtain ⟨ws, hws, hB⟩ := hm7
      refine ⟨_, rfl, false, t', us, rs', rfl, hus, hA, d8, w8, ?_⟩
      refine ⟨_, rfl, t', us, rfl, .inr (SqT.of hus), fun l8 hl8 => ?_⟩
      have e8 := Same.new hl8 (.lst us)
      refine ⟨true, l8, us, rs', rfl, upd_same, hA.keep e8.kt, d8, w8, ?_⟩
      refine ⟨_, rfl, false, t5, ws, ms, rfl, e8 _ _ hws, hB.keep e8.kt, by omega, by omega, ?_⟩
      refine ⟨slr rfl, fun l9 hl9 => ?_⟩
      have e9 := e8.trans (Same.new hl9 (.lst [.int ((ways rs' : Nat) : Int), .int ((ways rs' : Nat) : Int), .int ((ways ms : Nat) : Int)]))
      refine ⟨_, rfl, t', us, rs', rfl, e9 _ _ hus, hA.keep e9.kt, d8, w8, ?_⟩
      refine ⟨_, rfl, t', us, rs', rfl, e9 _ _ hus, hA.keep e9.kt, d8, w8, ?_⟩
      refine ⟨_, rfl, t5, ws, ms, rfl, e9 _ _ hws, hB.keep e9.kt, by omega, by omega, ?_⟩
      refine ⟨slr rfl, fun l10 hl10 => ?_⟩
      have e10 := Same.new hl10 (.lst [.int ((ways rs' : Nat) : Int), .int ((ways rs' : Nat) : Int), .int ((ways ms : Nat) : Int)])
      refine ⟨_, _, rfl, .inr (.inl ⟨l9, l10, _, _, rfl, rfl, e10 _ _ upd_same, upd_same, .cons (EqD.flat (x := .int _) True.intro) (.cons (EqD.flat (x := .int _) True.intro) (.cons (EqD.flat (x := .int _) True.intro) .nil)), by show 3 ≤ 100000; decide⟩), fun H11 e11 => ?_⟩
      refine ⟨_, rfl, iteF ?_⟩
      exact ⟨B7.same (e9.trans (e10.trans e11)), _, _, _, _, _, _, _, rfl⟩
  · rintro σ H1 ⟨B, u0, u2, u3, u4, u5, u6, u7, rfl⟩
    refine ⟨slr rfl, fun p2 hp2 => ⟨slr rfl, fun p3 hp3 => ⟨slr rfl, fun p4 hp4 => ⟨slr rfl, fun a5 ha5 => ?_⟩⟩⟩⟩
    have f3 := Same.new hp3 (.tup [.str "a", .str "b", .str "c", .str "d"])
    have f4 := Same.new hp4 (.tup [.str "pick", .int 1, .str "least", .ref p2, .ref p3])
    have f5 := Same.new ha5 (.tup [.ref p4])
    have hF : IsLs _ [.pick 1 "least" ["a", "b", "c", "d"] ["a", "b", "c", "d"]] a5 := ⟨[.ref p4], upd_same, IsAll.one ⟨p4, .ref p2, .ref p3, rfl, f5 _ _ upd_same, ⟨p2, rfl, f5 _ _ (f4 _ _ (f3 _ _ upd_same))⟩, ⟨p3, rfl, f5 _ _ (f4 _ _ upd_same)⟩⟩⟩
    dsimp only [tC]
    refine rep_ls (k := 40) hF (by decide) (by decide) (by decide) fun t6 H6 hs6 e6 => ?_
    have dF := dep_rep (ss := [.pick 1 "least" ["a", "b", "c", "d"] ["a", "b", "c", "d"]]) (40 : Int).toNat
    have wF := wt_rep (ss := [.pick 1 "least" ["a", "b", "c", "d"] ["a", "b", "c", "d"]]) (40 : Int).toNat
    have yF := ways_rep (ss := [.pick 1 "least" ["a", "b", "c", "d"] ["a", "b", "c", "d"]]) (40 : Int).toNat
    have d0 : depL [.pick 1 "least" ["a", "b", "c", "d"] ["a", "b", "c", "d"]] = 0 := rfl
    have w0 : wtL [.pick 1 "least" ["a", "b", "c", "d"] ["a", "b", "c", "d"]] = 4 := rfl
    have y0 : ways [.pick 1 "least" ["a", "b", "c", "d"] ["a", "b", "c", "d"]] = 4 := rfl
    rw [d0] at dF
    rw [w0] at wF
    rw [y0] at yF
    obtain ⟨us, hus, hA⟩ := hs6
    refine ⟨_, rfl, false, t6, us, _, rfl, hus, hA, by omega, by rw [wF]; decide, ?_⟩
    refine ⟨_, _, rfl, rfl, ⟨by decide, by decide, by decide⟩, rfl, _, rfl, ?_⟩
    rw [yF]
    rw [decide_eq_true (by decide +kernel)]
    refine iteT ?_
    refine ⟨slr rfl, fun l7 hl7 => ?_⟩
    refine ⟨true, l7, [], [], rfl, upd_same, rfl, by decide, by decide, rfl, ?_⟩
    exact q _
end

theorem all_mk {l : PySem.W.OpenLaw} {w : World} {K : PySem.W.Frag} {h : Heap} {mg : Str → Option Value} {fa f1 f2 f3 f4 f5 f6 f7 f8 f9 f10 f11 f12 f13 f14 f15 f16 f17 f18 f19 f20 f21 : Addr} (X : K.In h) (G : h.Ns mainGlobals mg) (hfa : mg "law" = some (.ref fa))
    {od1 an1 od2 an2 od3 an3 od4 an4 od5 an5 od6 an6 od7 an7 od8 an8 od9 an9 od10 an10 od11 an11 od12 an12 od13 an13 od14 an14 od15 an15 od16 an16 od17 an17 od18 an18 od19 an19 od20 an20 od21 an21 : Option Addr} {sl1 sl2 sl3 sl4 sl5 sl6 sl7 sl8 sl9 sl10 sl11 sl12 sl13 sl14 sl15 sl16 sl17 sl18 sl19 sl20 sl21 : Array (Option Value)} {oc1 kV1 dc1 pm1 cd1 ct1 oc2 kV2 dc2 pm2 cd2 ct2 oc3 kV3 dc3 pm3 cd3 ct3 oc4 kV4 dc4 pm4 cd4 ct4 oc5 kV5 dc5 pm5 cd5 ct5 oc6 kV6 dc6 pm6 cd6 ct6 oc7 kV7 dc7 pm7 cd7 ct7 oc8 kV8 dc8 pm8 cd8 ct8 oc9 kV9 dc9 pm9 cd9 ct9 oc10 kV10 dc10 pm10 cd10 ct10 oc11 kV11 dc11 pm11 cd11 ct11 oc12 kV12 dc12 pm12 cd12 ct12 oc13 kV13 dc13 pm13 cd13 ct13 oc14 kV14 dc14 pm14 cd14 ct14 oc15 kV15 dc15 pm15 cd15 ct15 oc16 kV16 dc16 pm16 cd16 ct16 oc17 kV17 dc17 pm17 cd17 ct17 oc18 kV18 dc18 pm18 cd18 ct18 oc19 kV19 dc19 pm19 cd19 ct19 oc20 kV20 dc20 pm20 cd20 ct20 oc21 kV21 dc21 pm21 cd21 ct21 : Value}
    (a1 : PySem.W.nsIn K mainGlobals "ways_through" = some (some (.ref f1))) (l1 : K.lookup f1 = some ⟨oc1, od1, .func (PySem.W.fnOf "ways_through" "ways_through" (defArgs s_ways_through) (defBody s_ways_through) (defScope s_ways_through) .none kV1 dc1 pm1 an1 cd1 ct1), sl1⟩) (c1 : PySem.W.codeIn K cd1 "ways_through" = true) (k1 : PySem.W.keepIn K (.ref f1) = true)
    (a2 : PySem.W.nsIn K mainGlobals "ways_at" = some (some (.ref f2))) (l2 : K.lookup f2 = some ⟨oc2, od2, .func (PySem.W.fnOf "ways_at" "ways_at" (defArgs s_ways_at) (defBody s_ways_at) (defScope s_ways_at) .none kV2 dc2 pm2 an2 cd2 ct2), sl2⟩) (c2 : PySem.W.codeIn K cd2 "ways_at" = true) (k2 : PySem.W.keepIn K (.ref f2) = true)
    (a3 : PySem.W.nsIn K mainGlobals "_law_bag" = some (some (.ref f3))) (l3 : K.lookup f3 = some ⟨oc3, od3, .func (PySem.W.fnOf "_law_bag" "_law_bag" (defArgs s_bag) (defBody s_bag) (defScope s_bag) .none kV3 dc3 pm3 an3 cd3 ct3), sl3⟩) (c3 : PySem.W.codeIn K cd3 "_law_bag" = true) (k3 : PySem.W.keepIn K (.ref f3) = true)
    (a4 : PySem.W.nsIn K mainGlobals "_law_pull" = some (some (.ref f4))) (l4 : K.lookup f4 = some ⟨oc4, od4, .func (PySem.W.fnOf "_law_pull" "_law_pull" (defArgs s_pull) (defBody s_pull) (defScope s_pull) .none kV4 dc4 pm4 an4 cd4 ct4), sl4⟩) (c4 : PySem.W.codeIn K cd4 "_law_pull" = true) (k4 : PySem.W.keepIn K (.ref f4) = true)
    (a5 : PySem.W.nsIn K mainGlobals "_law_of" = some (some (.ref f5))) (l5 : K.lookup f5 = some ⟨oc5, od5, .func (PySem.W.fnOf "_law_of" "_law_of" (defArgs s_of) (defBody s_of) (defScope s_of) .none kV5 dc5 pm5 an5 cd5 ct5), sl5⟩) (c5 : PySem.W.codeIn K cd5 "_law_of" = true) (k5 : PySem.W.keepIn K (.ref f5) = true)
    (a6 : PySem.W.nsIn K mainGlobals "_law_mixed" = some (some (.ref f6))) (l6 : K.lookup f6 = some ⟨oc6, od6, .func (PySem.W.fnOf "_law_mixed" "_law_mixed" (defArgs s_mixed) (defBody s_mixed) (defScope s_mixed) .none kV6 dc6 pm6 an6 cd6 ct6), sl6⟩) (c6 : PySem.W.codeIn K cd6 "_law_mixed" = true) (k6 : PySem.W.keepIn K (.ref f6) = true)
    (a7 : PySem.W.nsIn K mainGlobals "_law_same" = some (some (.ref f7))) (l7 : K.lookup f7 = some ⟨oc7, od7, .func (PySem.W.fnOf "_law_same" "_law_same" (defArgs s_same) (defBody s_same) (defScope s_same) .none kV7 dc7 pm7 an7 cd7 ct7), sl7⟩) (c7 : PySem.W.codeIn K cd7 "_law_same" = true) (k7 : PySem.W.keepIn K (.ref f7) = true)
    (a8 : PySem.W.nsIn K mainGlobals "_law_gcd" = some (some (.ref f8))) (l8 : K.lookup f8 = some ⟨oc8, od8, .func (PySem.W.fnOf "_law_gcd" "_law_gcd" (defArgs s_gcd) (defBody s_gcd) (defScope s_gcd) .none kV8 dc8 pm8 an8 cd8 ct8), sl8⟩) (c8 : PySem.W.codeIn K cd8 "_law_gcd" = true) (k8 : PySem.W.keepIn K (.ref f8) = true)
    (a9 : PySem.W.nsIn K mainGlobals "_law_low" = some (some (.ref f9))) (l9 : K.lookup f9 = some ⟨oc9, od9, .func (PySem.W.fnOf "_law_low" "_law_low" (defArgs s_low) (defBody s_low) (defScope s_low) .none kV9 dc9 pm9 an9 cd9 ct9), sl9⟩) (c9 : PySem.W.codeIn K cd9 "_law_low" = true) (k9 : PySem.W.keepIn K (.ref f9) = true)
    (a10 : PySem.W.nsIn K mainGlobals "_law_share" = some (some (.ref f10))) (l10 : K.lookup f10 = some ⟨oc10, od10, .func (PySem.W.fnOf "_law_share" "_law_share" (defArgs s_share) (defBody s_share) (defScope s_share) .none kV10 dc10 pm10 an10 cd10 ct10), sl10⟩) (c10 : PySem.W.codeIn K cd10 "_law_share" = true) (k10 : PySem.W.keepIn K (.ref f10) = true)
    (a11 : PySem.W.nsIn K mainGlobals "_law_letters" = some (some (.ref f11))) (l11 : K.lookup f11 = some ⟨oc11, od11, .func (PySem.W.fnOf "_law_letters" "_law_letters" (defArgs s_letters) (defBody s_letters) (defScope s_letters) .none kV11 dc11 pm11 an11 cd11 ct11), sl11⟩) (c11 : PySem.W.codeIn K cd11 "_law_letters" = true) (k11 : PySem.W.keepIn K (.ref f11) = true)
    (a12 : PySem.W.nsIn K mainGlobals "_law_pool" = some (some (.ref f12))) (l12 : K.lookup f12 = some ⟨oc12, od12, .func (PySem.W.fnOf "_law_pool" "_law_pool" (defArgs s_pool) (defBody s_pool) (defScope s_pool) .none kV12 dc12 pm12 an12 cd12 ct12), sl12⟩) (c12 : PySem.W.codeIn K cd12 "_law_pool" = true) (k12 : PySem.W.keepIn K (.ref f12) = true)
    (a13 : PySem.W.nsIn K mainGlobals "_law_pieces" = some (some (.ref f13))) (l13 : K.lookup f13 = some ⟨oc13, od13, .func (PySem.W.fnOf "_law_pieces" "_law_pieces" (defArgs s_pieces) (defBody s_pieces) (defScope s_pieces) .none kV13 dc13 pm13 an13 cd13 ct13), sl13⟩) (c13 : PySem.W.codeIn K cd13 "_law_pieces" = true) (k13 : PySem.W.keepIn K (.ref f13) = true)
    (a14 : PySem.W.nsIn K mainGlobals "_law_fresh" = some (some (.ref f14))) (l14 : K.lookup f14 = some ⟨oc14, od14, .func (PySem.W.fnOf "_law_fresh" "_law_fresh" (defArgs s_fresh) (defBody s_fresh) (defScope s_fresh) .none kV14 dc14 pm14 an14 cd14 ct14), sl14⟩) (c14 : PySem.W.codeIn K cd14 "_law_fresh" = true) (k14 : PySem.W.keepIn K (.ref f14) = true)
    (a15 : PySem.W.nsIn K mainGlobals "_law_without" = some (some (.ref f15))) (l15 : K.lookup f15 = some ⟨oc15, od15, .func (PySem.W.fnOf "_law_without" "_law_without" (defArgs s_without) (defBody s_without) (defScope s_without) .none kV15 dc15 pm15 an15 cd15 ct15), sl15⟩) (c15 : PySem.W.codeIn K cd15 "_law_without" = true) (k15 : PySem.W.keepIn K (.ref f15) = true)
    (a16 : PySem.W.nsIn K mainGlobals "_law_ends" = some (some (.ref f16))) (l16 : K.lookup f16 = some ⟨oc16, od16, .func (PySem.W.fnOf "_law_ends" "_law_ends" (defArgs s_ends) (defBody s_ends) (defScope s_ends) .none kV16 dc16 pm16 an16 cd16 ct16), sl16⟩) (c16 : PySem.W.codeIn K cd16 "_law_ends" = true) (k16 : PySem.W.keepIn K (.ref f16) = true)
    (a17 : PySem.W.nsIn K mainGlobals "_law_ask" = some (some (.ref f17))) (l17 : K.lookup f17 = some ⟨oc17, od17, .func (PySem.W.fnOf "_law_ask" "_law_ask" (defArgs s_ask) (defBody s_ask) (defScope s_ask) .none kV17 dc17 pm17 an17 cd17 ct17), sl17⟩) (c17 : PySem.W.codeIn K cd17 "_law_ask" = true) (k17 : PySem.W.keepIn K (.ref f17) = true)
    (a18 : PySem.W.nsIn K mainGlobals "_law_lines" = some (some (.ref f18))) (l18 : K.lookup f18 = some ⟨oc18, od18, .func (PySem.W.fnOf "_law_lines" "_law_lines" (defArgs s_lines) (defBody s_lines) (defScope s_lines) .none kV18 dc18 pm18 an18 cd18 ct18), sl18⟩) (c18 : PySem.W.codeIn K cd18 "_law_lines" = true) (k18 : PySem.W.keepIn K (.ref f18) = true)
    (a19 : PySem.W.nsIn K mainGlobals "_law_drawn" = some (some (.ref f19))) (l19 : K.lookup f19 = some ⟨oc19, od19, .func (PySem.W.fnOf "_law_drawn" "_law_drawn" (defArgs s_drawn) (defBody s_drawn) (defScope s_drawn) .none kV19 dc19 pm19 an19 cd19 ct19), sl19⟩) (c19 : PySem.W.codeIn K cd19 "_law_drawn" = true) (k19 : PySem.W.keepIn K (.ref f19) = true)
    (a20 : PySem.W.nsIn K mainGlobals "_law_ways" = some (some (.ref f20))) (l20 : K.lookup f20 = some ⟨oc20, od20, .func (PySem.W.fnOf "_law_ways" "_law_ways" (defArgs s_ways) (defBody s_ways) (defScope s_ways) .none kV20 dc20 pm20 an20 cd20 ct20), sl20⟩) (c20 : PySem.W.codeIn K cd20 "_law_ways" = true) (k20 : PySem.W.keepIn K (.ref f20) = true)
    (a21 : PySem.W.nsIn K mainGlobals "law" = some (some (.ref f21))) (l21 : K.lookup f21 = some ⟨oc21, od21, .func (PySem.W.fnOf "law" "law" (defArgs s_law) (defBody s_law) (defScope s_law) .none kV21 dc21 pm21 an21 cd21 ct21), sl21⟩) (c21 : PySem.W.codeIn K cd21 "law" = true) (k21 : PySem.W.keepIn K (.ref f21) = true)
    (z_abs : PySem.W.nsIn K mainGlobals "abs" = some none) (z_all : PySem.W.nsIn K mainGlobals "all" = some none) (z_bool : PySem.W.nsIn K mainGlobals "bool" = some none) (z_int : PySem.W.nsIn K mainGlobals "int" = some none) (z_isinstance : PySem.W.nsIn K mainGlobals "isinstance" = some none) (z_len : PySem.W.nsIn K mainGlobals "len" = some none) (z_list : PySem.W.nsIn K mainGlobals "list" = some none) (z_min : PySem.W.nsIn K mainGlobals "min" = some none) (z_range : PySem.W.nsIn K mainGlobals "range" = some none) (z_str : PySem.W.nsIn K mainGlobals "str" = some none) (z_tuple : PySem.W.nsIn K mainGlobals "tuple" = some none) :
    ∃ fd : FuncData, (∀ (s : Shared) (v : Value), BindsTo s fd ⟨[v], []⟩ [("_law_script", v)]) ∧ ∀ base : Heap, K.In base → base.Ns mainGlobals mg → FnOk l.prog w K mg base CX0 43 fa fd ["_law_script"] (spLaw K) := by
  have e := hfa.symm.trans (PySem.W.mg_of X G a21)
  cases e
  have F1 := fun_mk (st := s_ways_through) l1 c1 k1
  have b1 := F1.binds (ps := ["statements"]) fun _ _ _ _ _ _ us hl => match us, hl with | [_], _ => rfl
  have F2 := fun_mk (st := s_ways_at) l2 c2 k2
  have b2 := F2.binds (ps := ["statement"]) fun _ _ _ _ _ _ us hl => match us, hl with | [_], _ => rfl
  have F3 := fun_mk (st := s_bag) l3 c3 k3
  have b3 := F3.binds (ps := ["_law_script"]) fun _ _ _ _ _ _ us hl => match us, hl with | [_], _ => rfl
  have F4 := fun_mk (st := s_pull) l4 c4 k4
  have b4 := F4.binds (ps := ["_law_bag_here", "_law_many"]) fun _ _ _ _ _ _ us hl => match us, hl with | [_, _], _ => rfl
  have F5 := fun_mk (st := s_of) l5 c5 k5
  have b5 := F5.binds (ps := ["_law_bag_here", "_law_some"]) fun _ _ _ _ _ _ us hl => match us, hl with | [_, _], _ => rfl
  have F6 := fun_mk (st := s_mixed) l6 c6 k6
  have b6 := F6.binds (ps := ["_law_bag_here", "_law_some"]) fun _ _ _ _ _ _ us hl => match us, hl with | [_, _], _ => rfl
  have F7 := fun_mk (st := s_same) l7 c7 k7
  have b7 := F7.binds (ps := ["_law_found", "_law_due"]) fun _ _ _ _ _ _ us hl => match us, hl with | [_, _], _ => rfl
  have F8 := fun_mk (st := s_gcd) l8 c8 k8
  have b8 := F8.binds (ps := ["_law_a", "_law_b"]) fun _ _ _ _ _ _ us hl => match us, hl with | [_, _], _ => rfl
  have F9 := fun_mk (st := s_low) l9 c9 k9
  have b9 := F9.binds (ps := ["_law_a", "_law_b"]) fun _ _ _ _ _ _ us hl => match us, hl with | [_, _], _ => rfl
  have F10 := fun_mk (st := s_share) l10 c10 k10
  have b10 := F10.binds (ps := ["_law_bag_here"]) fun _ _ _ _ _ _ us hl => match us, hl with | [_], _ => rfl
  have F11 := fun_mk (st := s_letters) l11 c11 k11
  have b11 := F11.binds (ps := []) fun _ _ _ _ _ _ us hl => match us, hl with | [], _ => rfl
  have F12 := fun_mk (st := s_pool) l12 c12 k12
  have b12 := F12.binds (ps := ["_law_bag_here", "_law_many"]) fun _ _ _ _ _ _ us hl => match us, hl with | [_, _], _ => rfl
  have F13 := fun_mk (st := s_pieces) l13 c13 k13
  have b13 := F13.binds (ps := ["_law_bag_here"]) fun _ _ _ _ _ _ us hl => match us, hl with | [_], _ => rfl
  have F14 := fun_mk (st := s_fresh) l14 c14 k14
  have b14 := F14.binds (ps := ["_law_bag_here", "_law_pool_here", "_law_present", "_law_many"]) fun _ _ _ _ _ _ us hl => match us, hl with | [_, _, _, _], _ => rfl
  have F15 := fun_mk (st := s_without) l15 c15 k15
  have b15 := F15.binds (ps := ["_law_present", "_law_gone"]) fun _ _ _ _ _ _ us hl => match us, hl with | [_, _], _ => rfl
  have F16 := fun_mk (st := s_ends) l16 c16 k16
  have b16 := F16.binds (ps := ["_law_bag_here", "_law_players", "_law_present"]) fun _ _ _ _ _ _ us hl => match us, hl with | [_, _, _], _ => rfl
  have F17 := fun_mk (st := s_ask) l17 c17 k17
  have b17 := F17.binds (ps := ["_law_bag_here", "_law_players", "_law_pool_here", "_law_present", "_law_room", "_law_wide"]) fun _ _ _ _ _ _ us hl => match us, hl with | [_, _, _, _, _, _], _ => rfl
  have F18 := fun_mk (st := s_lines) l18 c18 k18
  have b18 := F18.binds (ps := ["_law_bag_here", "_law_players", "_law_pool_here", "_law_present", "_law_room", "_law_wide"]) fun _ _ _ _ _ _ us hl => match us, hl with | [_, _, _, _, _, _], _ => rfl
  have F19 := fun_mk (st := s_drawn) l19 c19 k19
  have b19 := F19.binds (ps := ["_law_bag_here", "_law_most", "_law_room", "_law_wide"]) fun _ _ _ _ _ _ us hl => match us, hl with | [_, _, _, _], _ => rfl
  have F20 := fun_mk (st := s_ways) l20 c20 k20
  have b20 := F20.binds (ps := ["_law_lines_here"]) fun _ _ _ _ _ _ us hl => match us, hl with | [_], _ => rfl
  have F21 := fun_mk (st := s_law) l21 c21 k21
  have b21 := F21.binds (ps := ["_law_script"]) fun _ _ _ _ _ _ us hl => match us, hl with | [_], _ => rfl
  have T : Txt K mg ⟨f1, PySem.W.fnOf "ways_through" "ways_through" (defArgs s_ways_through) (defBody s_ways_through) (defScope s_ways_through) .none kV1 dc1 pm1 an1 cd1 ct1, f2, PySem.W.fnOf "ways_at" "ways_at" (defArgs s_ways_at) (defBody s_ways_at) (defScope s_ways_at) .none kV2 dc2 pm2 an2 cd2 ct2, f3, PySem.W.fnOf "_law_bag" "_law_bag" (defArgs s_bag) (defBody s_bag) (defScope s_bag) .none kV3 dc3 pm3 an3 cd3 ct3, f4, PySem.W.fnOf "_law_pull" "_law_pull" (defArgs s_pull) (defBody s_pull) (defScope s_pull) .none kV4 dc4 pm4 an4 cd4 ct4, f5, PySem.W.fnOf "_law_of" "_law_of" (defArgs s_of) (defBody s_of) (defScope s_of) .none kV5 dc5 pm5 an5 cd5 ct5, f6, PySem.W.fnOf "_law_mixed" "_law_mixed" (defArgs s_mixed) (defBody s_mixed) (defScope s_mixed) .none kV6 dc6 pm6 an6 cd6 ct6, f7, PySem.W.fnOf "_law_same" "_law_same" (defArgs s_same) (defBody s_same) (defScope s_same) .none kV7 dc7 pm7 an7 cd7 ct7, f8, PySem.W.fnOf "_law_gcd" "_law_gcd" (defArgs s_gcd) (defBody s_gcd) (defScope s_gcd) .none kV8 dc8 pm8 an8 cd8 ct8, f9, PySem.W.fnOf "_law_low" "_law_low" (defArgs s_low) (defBody s_low) (defScope s_low) .none kV9 dc9 pm9 an9 cd9 ct9, f10, PySem.W.fnOf "_law_share" "_law_share" (defArgs s_share) (defBody s_share) (defScope s_share) .none kV10 dc10 pm10 an10 cd10 ct10, f11, PySem.W.fnOf "_law_letters" "_law_letters" (defArgs s_letters) (defBody s_letters) (defScope s_letters) .none kV11 dc11 pm11 an11 cd11 ct11, f12, PySem.W.fnOf "_law_pool" "_law_pool" (defArgs s_pool) (defBody s_pool) (defScope s_pool) .none kV12 dc12 pm12 an12 cd12 ct12, f13, PySem.W.fnOf "_law_pieces" "_law_pieces" (defArgs s_pieces) (defBody s_pieces) (defScope s_pieces) .none kV13 dc13 pm13 an13 cd13 ct13, f14, PySem.W.fnOf "_law_fresh" "_law_fresh" (defArgs s_fresh) (defBody s_fresh) (defScope s_fresh) .none kV14 dc14 pm14 an14 cd14 ct14, f15, PySem.W.fnOf "_law_without" "_law_without" (defArgs s_without) (defBody s_without) (defScope s_without) .none kV15 dc15 pm15 an15 cd15 ct15, f16, PySem.W.fnOf "_law_ends" "_law_ends" (defArgs s_ends) (defBody s_ends) (defScope s_ends) .none kV16 dc16 pm16 an16 cd16 ct16, f17, PySem.W.fnOf "_law_ask" "_law_ask" (defArgs s_ask) (defBody s_ask) (defScope s_ask) .none kV17 dc17 pm17 an17 cd17 ct17, f18, PySem.W.fnOf "_law_lines" "_law_lines" (defArgs s_lines) (defBody s_lines) (defScope s_lines) .none kV18 dc18 pm18 an18 cd18 ct18, f19, PySem.W.fnOf "_law_drawn" "_law_drawn" (defArgs s_drawn) (defBody s_drawn) (defScope s_drawn) .none kV19 dc19 pm19 an19 cd19 ct19, f20, PySem.W.fnOf "_law_ways" "_law_ways" (defArgs s_ways) (defBody s_ways) (defScope s_ways) .none kV20 dc20 pm20 an20 cd20 ct20, fa, PySem.W.fnOf "law" "law" (defArgs s_law) (defBody s_law) (defScope s_law) .none kV21 dc21 pm21 an21 cd21 ct21⟩ := ⟨⟨F1, PySem.W.mg_of X G a1, b1⟩, ⟨F2, PySem.W.mg_of X G a2, b2⟩, ⟨F3, PySem.W.mg_of X G a3, b3⟩, ⟨F4, PySem.W.mg_of X G a4, b4⟩, ⟨F5, PySem.W.mg_of X G a5, b5⟩, ⟨F6, PySem.W.mg_of X G a6, b6⟩, ⟨F7, PySem.W.mg_of X G a7, b7⟩, ⟨F8, PySem.W.mg_of X G a8, b8⟩, ⟨F9, PySem.W.mg_of X G a9, b9⟩, ⟨F10, PySem.W.mg_of X G a10, b10⟩, ⟨F11, PySem.W.mg_of X G a11, b11⟩, ⟨F12, PySem.W.mg_of X G a12, b12⟩, ⟨F13, PySem.W.mg_of X G a13, b13⟩, ⟨F14, PySem.W.mg_of X G a14, b14⟩, ⟨F15, PySem.W.mg_of X G a15, b15⟩, ⟨F16, PySem.W.mg_of X G a16, b16⟩, ⟨F17, PySem.W.mg_of X G a17, b17⟩, ⟨F18, PySem.W.mg_of X G a18, b18⟩, ⟨F19, PySem.W.mg_of X G a19, b19⟩, ⟨F20, PySem.W.mg_of X G a20, b20⟩, ⟨F21, PySem.W.mg_of X G a21, b21⟩, PySem.W.mg_none_of X G z_abs, PySem.W.mg_none_of X G z_all, PySem.W.mg_none_of X G z_bool, PySem.W.mg_none_of X G z_int, PySem.W.mg_none_of X G z_isinstance, PySem.W.mg_none_of X G z_len, PySem.W.mg_none_of X G z_list, PySem.W.mg_none_of X G z_min, PySem.W.mg_none_of X G z_range, PySem.W.mg_none_of X G z_str, PySem.W.mg_none_of X G z_tuple⟩
  exact ⟨PySem.W.fnOf "law" "law" (defArgs s_law) (defBody s_law) (defScope s_law) .none kV21 dc21 pm21 an21 cd21 ct21, fun s v => .of_eq rfl, fun base _ _ => ok_law T⟩
theorem walk {l : PySem.W.OpenLaw} {q : Program} {loose : List Str} {XP : (Str → Option Value) → Heap → Prop} {YP : World → Heap → Prop} {d : DefRec} {K : Params → PySem.W.Frag} (hn : l.most = some 63) (hdf : d.params.defaults = [])
    (hY : ∀ (w : World) (h : Heap), YP w h → (K w.params).In h)
    (F : ∀ (w : World) (mg : Str → Option Value) (fa : Addr) (h : Heap), (K w.params).In h → h.Ns mainGlobals mg → mg d.name = some (.ref fa) →
      ∃ fd : FuncData, (∀ (s : Shared) (u : Value), BindsTo s fd ⟨[u], []⟩ [("_law_script", u)]) ∧ ∀ base : Heap, (K w.params).In base → base.Ns mainGlobals mg → FnOk l.prog w (K w.params) mg base CX0 43 fa fd ["_law_script"] (spLaw (K w.params))) :
    PySem.W.WalkO q loose XP YP l.row.toRowW d [] (fun f vs => PySem.call f vs) :=
  L2.walk_of (n := 63) (k := 43) (x := "_law_script") (CX := fun _ => CX0) (sp := fun w => spLaw (K w.params)) hn (by decide) hdf ⟨rfl, by decide, by decide⟩ hY F (fun _ _ a ns hl _ hS => ⟨a, ns, rfl, hS, hl, fun _ => rfl⟩) fun _ _ _ _ _ z => z
end Toy
open PySem PySem.W PyProof.Rows in
set_option maxRecDepth 100000 in
set_option maxHeartbeats 0 in
theorem PySem.Challenge.cw_graincourse_k06_numbers_of_branches_holds : PySem.Challenge.rw_graincourse_k06_numbers_of_branches.Holds := by
  w_on; o_law; k_head; (case hw => w_witness2)
  k_fill
  refine Toy.walk (l := PySem.Challenge.rw_graincourse_k06_numbers_of_branches) rfl rfl (fun w h Y => PySem.W.kIn_of Y) ?F
  case F =>
    intro w mg fa h KX G hmg
    refine' Toy.all_mk KX G hmg ?a1 ?l1 ?c1 ?k1 ?a2 ?l2 ?c2 ?k2 ?a3 ?l3 ?c3 ?k3 ?a4 ?l4 ?c4 ?k4 ?a5 ?l5 ?c5 ?k5 ?a6 ?l6 ?c6 ?k6 ?a7 ?l7 ?c7 ?k7 ?a8 ?l8 ?c8 ?k8 ?a9 ?l9 ?c9 ?k9 ?a10 ?l10 ?c10 ?k10 ?a11 ?l11 ?c11 ?k11 ?a12 ?l12 ?c12 ?k12 ?a13 ?l13 ?c13 ?k13 ?a14 ?l14 ?c14 ?k14 ?a15 ?l15 ?c15 ?k15 ?a16 ?l16 ?c16 ?k16 ?a17 ?l17 ?c17 ?k17 ?a18 ?l18 ?c18 ?k18 ?a19 ?l19 ?c19 ?k19 ?a20 ?l20 ?c20 ?k20 ?a21 ?l21 ?c21 ?k21 ?z_abs ?z_all ?z_bool ?z_int ?z_isinstance ?z_len ?z_list ?z_min ?z_range ?z_str ?z_tuple
    (case a1 => k_is)
    (case l1 => k_is)
    (case c1 => k_is)
    (case k1 => k_is)
    (case a2 => k_is)
    (case l2 => k_is)
    (case c2 => k_is)
    (case k2 => k_is)
    (case a3 => k_is)
    (case l3 => k_is)
    (case c3 => k_is)
    (case k3 => k_is)
    (case a4 => k_is)
    (case l4 => k_is)
    (case c4 => k_is)
    (case k4 => k_is)
    (case a5 => k_is)
    (case l5 => k_is)
    (case c5 => k_is)
    (case k5 => k_is)
    (case a6 => k_is)
    (case l6 => k_is)
    (case c6 => k_is)
    (case k6 => k_is)
    (case a7 => k_is)
    (case l7 => k_is)
    (case c7 => k_is)
    (case k7 => k_is)
    (case a8 => k_is)
    (case l8 => k_is)
    (case c8 => k_is)
    (case k8 => k_is)
    (case a9 => k_is)
    (case l9 => k_is)
    (case c9 => k_is)
    (case k9 => k_is)
    (case a10 => k_is)
    (case l10 => k_is)
    (case c10 => k_is)
    (case k10 => k_is)
    (case a11 => k_is)
    (case l11 => k_is)
    (case c11 => k_is)
    (case k11 => k_is)
    (case a12 => k_is)
    (case l12 => k_is)
    (case c12 => k_is)
    (case k12 => k_is)
    (case a13 => k_is)
    (case l13 => k_is)
    (case c13 => k_is)
    (case k13 => k_is)
    (case a14 => k_is)
    (case l14 => k_is)
    (case c14 => k_is)
    (case k14 => k_is)
    (case a15 => k_is)
    (case l15 => k_is)
    (case c15 => k_is)
    (case k15 => k_is)
    (case a16 => k_is)
    (case l16 => k_is)
    (case c16 => k_is)
    (case k16 => k_is)
    (case a17 => k_is)
    (case l17 => k_is)
    (case c17 => k_is)
    (case k17 => k_is)
    (case a18 => k_is)
    (case l18 => k_is)
    (case c18 => k_is)
    (case k18 => k_is)
    (case a19 => k_is)
    (case l19 => k_is)
    (case c19 => k_is)
    (case k19 => k_is)
    (case a20 => k_is)
    (case l20 => k_is)
    (case c20 => k_is)
    (case k20 => k_is)
    (case a21 => k_is)
    (case l21 => k_is)
    (case c21 => k_is)
    (case k21 => k_is)
    (case z_abs => k_is)
    (case z_all => k_is)
    (case z_bool => k_is)
    (case z_int => k_is)
    (case z_isinstance => k_is)
    (case z_len => k_is)
    (case z_list => k_is)
    (case z_min => k_is)
    (case z_range => k_is)
    (case z_str => k_is)
    (case z_tuple => k_is)


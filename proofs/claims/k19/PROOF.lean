import PyProof.Rows.All
import Wide.All
import OpenK.AllK
import Wide.FinOn
import HandS.Base
import HandS.Call
import HandS.List
import HandS.Comp
import HandS.Ends
import HandS.Dict
import HandS.Iter
import HandS.Text
import HandS.Words
import HandS.WordsExc
import HandS.WordsList
import HandS.Wide
import HandS.IsInst
import HandS.More
import HandS.Star
import HandS.Flow
import HandS.NoneIn
import HandS.WideBits
import HandS.StrMore
import HandS.ExcValue
import HandS.Exc
import HandS.ExcOwn
import HandS.ExcInit
import HandS.ExcInitHot
import HandS.ExcField
import HandS.ExcIs
import HandS.ClsMeth
import HandS.ListEq
import PySem.Challenge.RW_graincourse_k19_sheets_as_objects
set_option Elab.async false
set_option maxRecDepth 100000
set_option exponentiation.threshold 100000
set_option linter.all false

namespace Toy
open PySem L2
def top (i : Nat) : Stmt := PySem.Challenge.pw_graincourse_k19_sheets_as_objects.main.body.getD i (.Pass ⟨0, 0, 0, 0⟩)
abbrev s_wall : Stmt := top 0
abbrev s_Sheet___init__ : Stmt := inClass (top 2) 0
abbrev s_Sheet_numbers : Stmt := inClass (top 2) 1
abbrev s_Sheet_fits : Stmt := inClass (top 2) 2
abbrev s_Sheet_totals : Stmt := inClass (top 2) 3
abbrev s_Bound___init__ : Stmt := inClass (top 3) 0
abbrev s_Bound_numbers : Stmt := inClass (top 3) 1
abbrev s_Bound_holds : Stmt := inClass (top 3) 2
abbrev s_Shut___init__ : Stmt := inClass (top 4) 0
abbrev s_Shut_numbers : Stmt := inClass (top 4) 1
abbrev s_Shut_holds : Stmt := inClass (top 4) 2
abbrev s_bag : Stmt := top 6
abbrev s_pull : Stmt := top 7
abbrev s_of : Stmt := top 8
abbrev s_same : Stmt := top 9
abbrev s_gcd : Stmt := top 10
abbrev s_low : Stmt := top 11
abbrev s_ratio : Stmt := top 12
abbrev s_law : Stmt := top 13
theorem sc_wall : FnScope ["k"] ["k"] (defScope s_wall) := ⟨rfl, rfl, rfl, by decide +kernel, rfl, by decide +kernel, by decide +kernel⟩
theorem sc_Sheet___init__ : FnScope ["self", "equal", "above", "number"] ["self", "equal", "above"] (defScope s_Sheet___init__) := ⟨rfl, rfl, rfl, by decide +kernel, rfl, by decide +kernel, by decide +kernel⟩
theorem sc_Sheet_numbers : FnScope ["self"] ["self"] (defScope s_Sheet_numbers) := ⟨rfl, rfl, rfl, by decide +kernel, rfl, by decide +kernel, by decide +kernel⟩
theorem sc_Sheet_fits : FnScope ["self", "branch", "player", "known"] ["self", "branch", "player", "known"] (defScope s_Sheet_fits) := ⟨rfl, rfl, rfl, by decide +kernel, rfl, by decide +kernel, by decide +kernel⟩
theorem sc_Sheet_totals : FnScope ["self", "branch", "player", "known"] ["self", "branch", "player", "known"] (defScope s_Sheet_totals) := ⟨rfl, rfl, rfl, by decide +kernel, rfl, by decide +kernel, by decide +kernel⟩
theorem sc_Bound___init__ : FnScope ["self", "equal", "above", "value"] ["self", "equal", "above", "value"] (defScope s_Bound___init__) := ⟨rfl, rfl, rfl, by decide +kernel, rfl, by decide +kernel, by decide +kernel⟩
theorem sc_Bound_numbers : FnScope ["self"] ["self"] (defScope s_Bound_numbers) := ⟨rfl, rfl, rfl, by decide +kernel, rfl, by decide +kernel, by decide +kernel⟩
theorem sc_Bound_holds : FnScope ["self", "branch", "player", "weights", "known"] ["self", "branch", "player", "weights", "known"] (defScope s_Bound_holds) := ⟨rfl, rfl, rfl, by decide +kernel, rfl, by decide +kernel, by decide +kernel⟩
theorem sc_Shut___init__ : FnScope ["self", "equal", "above", "player"] ["self", "equal", "above", "player"] (defScope s_Shut___init__) := ⟨rfl, rfl, rfl, by decide +kernel, rfl, by decide +kernel, by decide +kernel⟩
theorem sc_Shut_numbers : FnScope ["self"] ["self"] (defScope s_Shut_numbers) := ⟨rfl, rfl, rfl, by decide +kernel, rfl, by decide +kernel, by decide +kernel⟩
theorem sc_Shut_holds : FnScope ["self", "branch", "known"] ["self", "branch", "known"] (defScope s_Shut_holds) := ⟨rfl, rfl, rfl, by decide +kernel, rfl, by decide +kernel, by decide +kernel⟩
theorem sc_bag : FnScope ["_law_script", "_law_salt", "_law_cell"] ["_law_script"] (defScope s_bag) := ⟨rfl, rfl, rfl, by decide +kernel, rfl, by decide +kernel, by decide +kernel⟩
theorem sc_pull : FnScope ["_law_bag_here", "_law_many", "_law_cell", "_law_digit", "_law_seed"] ["_law_bag_here", "_law_many"] (defScope s_pull) := ⟨rfl, rfl, rfl, by decide +kernel, rfl, by decide +kernel, by decide +kernel⟩
theorem sc_of : FnScope ["_law_bag_here", "_law_some"] ["_law_bag_here", "_law_some"] (defScope s_of) := ⟨rfl, rfl, rfl, by decide +kernel, rfl, by decide +kernel, by decide +kernel⟩
theorem sc_same : FnScope ["_law_found", "_law_due", "_law_k"] ["_law_found", "_law_due"] (defScope s_same) := ⟨rfl, rfl, rfl, by decide +kernel, rfl, by decide +kernel, by decide +kernel⟩
theorem sc_gcd : FnScope ["_law_a", "_law_b"] ["_law_a", "_law_b"] (defScope s_gcd) := ⟨rfl, rfl, rfl, by decide +kernel, rfl, by decide +kernel, by decide +kernel⟩
theorem sc_low : FnScope ["_law_a", "_law_b", "_law_by"] ["_law_a", "_law_b"] (defScope s_low) := ⟨rfl, rfl, rfl, by decide +kernel, rfl, by decide +kernel, by decide +kernel⟩
theorem sc_ratio : FnScope ["_law_bag_here", "_law_most", "_law_top"] ["_law_bag_here", "_law_most"] (defScope s_ratio) := ⟨rfl, rfl, rfl, by decide +kernel, rfl, by decide +kernel, by decide +kernel⟩
theorem sc_law : FnScope ["_law_script", "_law_bag_here", "_law_turn", "_law_equal", "_law_above", "_law_value", "_law_player", "_law_given", "_law_more", "_law_some", "_law_again", "_law_sheet", "_law_found", "_law_numbers", "_law_kinds", "_law_k"] ["_law_script"] (defScope s_law) := ⟨rfl, rfl, rfl, by decide +kernel, rfl, by decide +kernel, by decide +kernel⟩
structure Df (K : PySem.W.Frag) (mg : Str → Option Value) (x : Str) (st : Stmt) (ps : List Str) (f : Addr) (fd : FuncData) : Prop where
  F : Fun K x x st f fd
  m : mg x = some (.ref f)
  b : Binds K fd ps []
structure Ad where
  f_bag : Addr
  fd_bag : FuncData
  f_pull : Addr
  fd_pull : FuncData
  f_of : Addr
  fd_of : FuncData
  f_same : Addr
  fd_same : FuncData
  f_gcd : Addr
  fd_gcd : FuncData
  f_low : Addr
  fd_low : FuncData
  f_ratio : Addr
  fd_ratio : FuncData
  f_law : Addr
  fd_law : FuncData
structure Txt (K : PySem.W.Frag) (mg : Str → Option Value) (A : Ad) : Prop where
  d_bag : Df K mg "_law_bag" s_bag ["_law_script"] A.f_bag A.fd_bag
  d_pull : Df K mg "_law_pull" s_pull ["_law_bag_here", "_law_many"] A.f_pull A.fd_pull
  d_of : Df K mg "_law_of" s_of ["_law_bag_here", "_law_some"] A.f_of A.fd_of
  d_same : Df K mg "_law_same" s_same ["_law_found", "_law_due"] A.f_same A.fd_same
  d_gcd : Df K mg "_law_gcd" s_gcd ["_law_a", "_law_b"] A.f_gcd A.fd_gcd
  d_low : Df K mg "_law_low" s_low ["_law_a", "_law_b"] A.f_low A.fd_low
  d_ratio : Df K mg "_law_ratio" s_ratio ["_law_bag_here", "_law_most"] A.f_ratio A.fd_ratio
  d_law : Df K mg "law" s_law ["_law_script"] A.f_law A.fd_law
  abs : mg "abs" = none
  all : mg "all" = none
  any : mg "any" = none
  bool : mg "bool" = none
  int : mg "int" = none
  isinstance : mg "isinstance" = none
  len : mg "len" = none
  list : mg "list" = none
  range : mg "range" = none
  str : mg "str" = none
  tuple : mg "tuple" = none
/-! ## What the head shows of each own class -/
def ownB (K : PySem.W.Frag) (C : Addr) (fs : List Str) : Bool := PySem.W.plainGet K C Str.empty && (PySem.W.hasDictIn K C && (PySem.W.plainOver K C && (decide (PySem.W.findIn K (.ref C) "__setattr__" = some (some (.builtin "object.__setattr__"))) && (PySem.W.makesIn K C && (PySem.W.keepIn K (.ref C) &&
  (decide (PySem.W.findIn K (.ref C) "__class__" = some (some (.builtin "object.__class__"))) && (decide (PySem.W.specialIn K (.builtin "object.__class__") "__get__" = some (some (.builtin "getset_descriptor.__get__"))) && (decide (PySem.W.takesIn K (.builtin "object.__class__") = some true) &&
  (decide (PySem.W.mroIn K C (.type "object") = some true) && fs.all (fun f => PySem.W.findIn K (.ref C) f == some none))))))))))
/-- an own class -/
structure OwC (K : PySem.W.Frag) (mg : Str → Option Value) (nm : Str) (fs : List Str) (C : Addr) : Prop where
  g : mg nm = some (.ref C)
  cl : Cls K C
  makes : PySem.W.makesIn K C = true
  kp : PySem.W.keepIn K (.ref C) = true
  ty : ∀ {H : Hp} {a dx : Addr} {vs : List (Str × V)}, H a = some (.ins C dx vs) → TyX K H (.ref a) (.ref C)
  na : fs.all (fun f => PySem.W.findIn K (.ref C) f == some none) = true
theorem OwC.no {K : PySem.W.Frag} {mg : Str → Option Value} {nm : Str} {fs : List Str} {C : Addr} (O : OwC K mg nm fs C) {f : Str} (h : f ∈ fs) : NoAttr K C f := beq_iff_eq.mp (List.all_eq_true.mp O.na f h)
theorem owc_mk {K : PySem.W.Frag} {mg : Str → Option Value} {nm : Str} {fs : List Str} {C : Addr} (g : mg nm = some (.ref C)) (h : ownB K C fs = true) : OwC K mg nm fs C := by
  obtain ⟨h1, h⟩ := Bool.and_eq_true_iff.mp h
  obtain ⟨h2, h⟩ := Bool.and_eq_true_iff.mp h
  obtain ⟨h3, h⟩ := Bool.and_eq_true_iff.mp h
  obtain ⟨h4, h⟩ := Bool.and_eq_true_iff.mp h
  obtain ⟨h5, h⟩ := Bool.and_eq_true_iff.mp h
  obtain ⟨h6, h⟩ := Bool.and_eq_true_iff.mp h
  obtain ⟨h7, h⟩ := Bool.and_eq_true_iff.mp h
  obtain ⟨h8, h⟩ := Bool.and_eq_true_iff.mp h
  obtain ⟨h9, h⟩ := Bool.and_eq_true_iff.mp h
  obtain ⟨h10, h11⟩ := Bool.and_eq_true_iff.mp h
  have c : Cls K C := ⟨h1, h2, h3, of_decide_eq_true h4⟩
  exact ⟨g, c, h5, h6, fun e => .base (.ins e c (of_decide_eq_true h7) (of_decide_eq_true h8) (of_decide_eq_true h9) (of_decide_eq_true h10)), h11⟩
/-- a def of an own class -/
structure OwM (K : PySem.W.Frag) (nm qn : Str) (st : Stmt) (ps : List Str) (C f : Addr) (fd : FuncData) : Prop where
  F : Fun K nm qn st f fd
  b : Binds K fd ps []
  mt : Meth K C nm f
theorem OwM.mk' {K : PySem.W.Frag} {mg : Str → Option Value} {cn qn : Str} {fs : List Str} {st : Stmt} {ps : List Str} {C f : Addr} {fd : FuncData} (M : OwM K "__init__" qn st ps C f fd) (O : OwC K mg cn fs C) : Mk K C f := ⟨O.makes, M.mt.at_, M.mt.fn, O.kp⟩

structure AdO where
  C_Sheet : Addr
  f_Sheet___init__ : Addr
  fd_Sheet___init__ : FuncData
  f_Sheet_numbers : Addr
  fd_Sheet_numbers : FuncData
  C_Bound : Addr
  f_Bound___init__ : Addr
  fd_Bound___init__ : FuncData
  f_Bound_numbers : Addr
  fd_Bound_numbers : FuncData
  C_Shut : Addr
  f_Shut___init__ : Addr
  fd_Shut___init__ : FuncData
  f_Shut_numbers : Addr
  fd_Shut_numbers : FuncData
structure OwT (K : PySem.W.Frag) (mg : Str → Option Value) (O : AdO) : Prop where
  c_Sheet : OwC K mg "Sheet" ["equal", "above"] O.C_Sheet
  m_Sheet___init__ : OwM K "__init__" "Sheet.__init__" s_Sheet___init__ ["self", "equal", "above"] O.C_Sheet O.f_Sheet___init__ O.fd_Sheet___init__
  m_Sheet_numbers : OwM K "numbers" "Sheet.numbers" s_Sheet_numbers ["self"] O.C_Sheet O.f_Sheet_numbers O.fd_Sheet_numbers
  cr_Sheet : ClX.CRead K O.C_Sheet (.type "type")
  cv_Sheet : ClX.CVal K O.C_Sheet (.type "type") "__init__" (.ref O.f_Sheet___init__) (.ref O.f_Sheet___init__)
  kit_Sheet_Sheet : PySem.W.kitOne K (.ref O.C_Sheet) (.ref O.C_Sheet) = some true
  kit_Sheet_Bound : PySem.W.kitOne K (.ref O.C_Sheet) (.ref O.C_Bound) = some false
  kit_Sheet_Shut : PySem.W.kitOne K (.ref O.C_Sheet) (.ref O.C_Shut) = some false
  c_Bound : OwC K mg "Bound" ["equal", "above", "value"] O.C_Bound
  m_Bound___init__ : OwM K "__init__" "Bound.__init__" s_Bound___init__ ["self", "equal", "above", "value"] O.C_Bound O.f_Bound___init__ O.fd_Bound___init__
  m_Bound_numbers : OwM K "numbers" "Bound.numbers" s_Bound_numbers ["self"] O.C_Bound O.f_Bound_numbers O.fd_Bound_numbers
  kit_Bound_Sheet : PySem.W.kitOne K (.ref O.C_Bound) (.ref O.C_Sheet) = some true
  kit_Bound_Bound : PySem.W.kitOne K (.ref O.C_Bound) (.ref O.C_Bound) = some true
  kit_Bound_Shut : PySem.W.kitOne K (.ref O.C_Bound) (.ref O.C_Shut) = some false
  c_Shut : OwC K mg "Shut" ["equal", "above", "player"] O.C_Shut
  m_Shut___init__ : OwM K "__init__" "Shut.__init__" s_Shut___init__ ["self", "equal", "above", "player"] O.C_Shut O.f_Shut___init__ O.fd_Shut___init__
  m_Shut_numbers : OwM K "numbers" "Shut.numbers" s_Shut_numbers ["self"] O.C_Shut O.f_Shut_numbers O.fd_Shut_numbers
  kit_Shut_Sheet : PySem.W.kitOne K (.ref O.C_Shut) (.ref O.C_Sheet) = some true
  kit_Shut_Bound : PySem.W.kitOne K (.ref O.C_Shut) (.ref O.C_Bound) = some false
  kit_Shut_Shut : PySem.W.kitOne K (.ref O.C_Shut) (.ref O.C_Shut) = some true
/-! ## Fractions: the mathematics, over Lean's own Rat -/
namespace RM
theorem num_pos {a b : Int} (h : 0 < b) : (Rat.divInt a b).num = a / ((Int.gcd a b : Nat) : Int) := by
  rw [Rat.num_divInt, Int.sign_eq_one_of_pos h, Int.one_mul, Int.gcd_comm]
theorem den_any {a b : Int} (h : b ≠ 0) : (((Rat.divInt a b).den : Nat) : Int) = ((b.natAbs : Nat) : Int) / ((Int.gcd a b : Nat) : Int) := by
  rw [Rat.den_divInt, if_neg h, Int.gcd_comm, Int.natCast_ediv]
theorem den_pos {a b : Int} (h : 0 < b) : (((Rat.divInt a b).den : Nat) : Int) = b / ((Int.gcd a b : Nat) : Int) := by
  rw [den_any (by omega), Int.natAbs_of_nonneg (by omega)]
theorem gcd_ne {a b : Int} (h : b ≠ 0) : ((Int.gcd a b : Nat) : Int) ≠ 0 := by
  have : Int.gcd a b ≠ 0 := by
    intro e
    rw [Int.gcd_eq_zero_iff] at e
    exact h e.2
  omega
theorem gcd_posi {a b : Int} (h : b ≠ 0) : 0 < ((Int.gcd a b : Nat) : Int) := by
  have := gcd_ne (a := a) h
  omega
theorem fdiv_neg_dvd {a g : Int} (hg : g ≠ 0) (h : g ∣ a) : a.fdiv (-g) = -(a / g) := by
  rw [Int.fdiv_neg hg, if_pos h, Int.fdiv_eq_ediv_of_dvd h]
theorem num_neg {a b : Int} (h : b < 0) : (Rat.divInt a b).num = a.fdiv (-((Int.gcd a b : Nat) : Int)) := by
  rw [fdiv_neg_dvd (gcd_ne (by omega)) (Int.gcd_dvd_left ..), Rat.num_divInt, Int.sign_eq_neg_one_of_neg h, Int.gcd_comm]
  rw [Int.neg_mul, Int.one_mul, Int.neg_ediv_of_dvd (Int.gcd_dvd_left ..)]
theorem den_neg {a b : Int} (h : b < 0) : (((Rat.divInt a b).den : Nat) : Int) = b.fdiv (-((Int.gcd a b : Nat) : Int)) := by
  rw [fdiv_neg_dvd (gcd_ne (by omega)) (Int.gcd_dvd_right ..), den_any (by omega), ← Int.neg_ediv_of_dvd (Int.gcd_dvd_right ..)]
  congr 1
  omega
theorem gcd_step (a b : Int) : Int.gcd b (a % b) = Int.gcd a b := by
  have h := Int.gcd_add_mul_left_right b (a % b) (a / b)
  rw [Int.emod_add_mul_ediv] at h
  rw [← h, Int.gcd_comm]
theorem add_eq (x y : Rat) : Rat.divInt (x.num * y.den + y.num * x.den) (x.den * y.den) = x + y := by
  have h := Rat.divInt_add_divInt x.num y.num (d₁ := x.den) (d₂ := y.den) (by have := x.den_nz; omega) (by have := y.den_nz; omega)
  rw [Rat.num_divInt_den, Rat.num_divInt_den] at h
  exact h.symm
theorem mul_eq (x y : Rat) : Rat.divInt (x.num * y.num) (x.den * y.den) = x * y := by
  have h := Rat.divInt_mul_divInt x.num y.num (d₁ := x.den) (d₂ := y.den)
  rw [Rat.num_divInt_den, Rat.num_divInt_den] at h
  exact h.symm
theorem den_p (x : Rat) : (0 : Int) < ((x.den : Nat) : Int) := by
  have := x.den_nz
  omega
/-- numbers below 2 ^ k -/
def Bd (k : Nat) (x : Rat) : Prop := x.num.natAbs < 2 ^ k ∧ x.den < 2 ^ k
theorem pow_le {j k : Nat} (h : j ≤ k) : 2 ^ j ≤ 2 ^ k := Nat.pow_le_pow_right (by decide) h
theorem Bd.mono {j k : Nat} {x : Rat} (b : Bd j x) (h : j ≤ k) : Bd k x := ⟨Nat.lt_of_lt_of_le b.1 (pow_le h), Nat.lt_of_lt_of_le b.2 (pow_le h)⟩
theorem div_num_le {a b : Int} (h : b ≠ 0) : (Rat.divInt a b).num.natAbs ≤ a.natAbs := by
  by_cases h1 : 0 < b
  · rw [num_pos h1]
    exact Int.natAbs_ediv_le_natAbs ..
  · rw [num_neg (by omega), fdiv_neg_dvd (gcd_ne h) (Int.gcd_dvd_left ..), Int.natAbs_neg]
    exact Int.natAbs_ediv_le_natAbs ..
theorem div_den_le {a b : Int} (h : b ≠ 0) : (Rat.divInt a b).den ≤ b.natAbs := by
  rw [Rat.den_divInt, if_neg h]
  exact Nat.div_le_self _ _
theorem Bd.div {a b : Int} {k : Nat} (h : b ≠ 0) (ha : a.natAbs < 2 ^ k) (hb : b.natAbs < 2 ^ k) : Bd k (Rat.divInt a b) :=
  ⟨Nat.lt_of_le_of_lt (div_num_le h) ha, Nat.lt_of_le_of_lt (div_den_le h) hb⟩
theorem abs_mul_lt {a b : Int} {j k : Nat} (ha : a.natAbs < 2 ^ j) (hb : b.natAbs < 2 ^ k) : (a * b).natAbs < 2 ^ (j + k) := by
  rw [Int.natAbs_mul, Nat.pow_add]
  exact Nat.mul_lt_mul'' ha hb
theorem abs_add_lt {a b : Int} {k : Nat} (ha : a.natAbs < 2 ^ k) (hb : b.natAbs < 2 ^ k) : (a + b).natAbs < 2 ^ (k + 1) := by
  rw [Nat.pow_succ]
  omega
theorem nat_abs (n : Nat) : ((n : Nat) : Int).natAbs = n := Int.natAbs_natCast n
theorem Bd.den {k : Nat} {x : Rat} (b : Bd k x) : ((x.den : Nat) : Int).natAbs < 2 ^ k := by
  rw [nat_abs]
  exact b.2
theorem cross_lt {j k : Nat} {x y : Rat} (bx : Bd j x) (bY : Bd k y) : (x.num * y.den + y.num * x.den).natAbs < 2 ^ (j + k + 1) :=
  abs_add_lt (abs_mul_lt bx.1 bY.den) (by rw [Nat.add_comm j k]; exact abs_mul_lt bY.1 bx.den)
theorem dd_ne (x y : Rat) : ((x.den : Nat) : Int) * ((y.den : Nat) : Int) ≠ 0 := Int.ne_of_gt (Int.mul_pos (den_p x) (den_p y))
theorem dd_pos (x y : Rat) : 0 < ((x.den : Nat) : Int) * ((y.den : Nat) : Int) := Int.mul_pos (den_p x) (den_p y)
theorem Bd.add {j k : Nat} {x y : Rat} (bx : Bd j x) (bY : Bd k y) : Bd (j + k + 1) (x + y) := by
  rw [← add_eq]
  exact Bd.div (dd_ne x y) (cross_lt bx bY) (Nat.lt_of_lt_of_le (abs_mul_lt bx.den bY.den) (pow_le (by omega)))
theorem Bd.mul {j k : Nat} {x y : Rat} (bx : Bd j x) (bY : Bd k y) : Bd (j + k) (x * y) := by
  rw [← mul_eq]
  exact Bd.div (dd_ne x y) (abs_mul_lt bx.1 bY.1) (abs_mul_lt bx.den bY.den)
theorem Bd.neg {k : Nat} {x : Rat} (b : Bd k x) : Bd k (-x) := by
  refine ⟨?_, ?_⟩
  · rw [Rat.neg_num, Int.natAbs_neg]
    exact b.1
  · rw [Rat.neg_den]
    exact b.2
theorem Bd.zero {k : Nat} (h : 1 ≤ k) : Bd k 0 := Bd.mono (j := 1) ⟨by decide, by decide⟩ h
theorem Bd.one {k : Nat} (h : 1 ≤ k) : Bd k 1 := Bd.mono (j := 1) ⟨by decide, by decide⟩ h
/-- sums and products from the left -/
def sumR (qs : List Rat) : Rat := qs.foldl (· + ·) 0
def mulR (qs : List Rat) : Rat := qs.foldl (· * ·) 1
theorem take_succ {α : Type} {xs : List α} {i : Nat} {x : α} (h : xs[i]? = some x) : xs.take (i + 1) = xs.take i ++ [x] := by
  rw [List.take_add_one, h]
  rfl
theorem sum_snoc (qs : List Rat) (x : Rat) : sumR (qs ++ [x]) = sumR qs + x := by
  unfold sumR
  rw [List.foldl_append]
  rfl
theorem mul_snoc (qs : List Rat) (x : Rat) : mulR (qs ++ [x]) = mulR qs * x := by
  unfold mulR
  rw [List.foldl_append]
  rfl
/-- one step of a sum whose denominator is not reduced, g a common divisor of both denominators -/
theorem part_step {n d a b g : Int} (hd : d ≠ 0) (hb : b ≠ 0) (h1 : g ∣ d) (h2 : g ∣ b) : Rat.divInt (n * (b / g) + a * (d / g)) (d * (b / g)) = Rat.divInt n d + Rat.divInt a b := by
  obtain ⟨u, rfl⟩ := h1
  obtain ⟨v, rfl⟩ := h2
  have hg : g ≠ 0 := fun z => hd (by rw [z, Int.zero_mul])
  rw [Int.mul_ediv_cancel_left _ hg, Int.mul_ediv_cancel_left _ hg, Rat.divInt_add_divInt _ _ hd hb, ← Rat.divInt_mul_left hg]
  congr 1
  · rw [Int.mul_add]
    congr 1 <;> ac_rfl
  · ac_rfl
end RM

/-! ## The law's own helpers: the bag, its draws, the comparison -/
theorem _root_.L2.Same.new {H : Hp} {p : Addr} (h : H p = none) (o : HO) : Same H (upd H p o) := fun b u q => by rw [upd_ne (ne_of_none q h)]; exact q
theorem _root_.L2.Same.set {H H' : Hp} {p : Addr} (e : Same H H') (h : H p = none) (o : HO) : Same H (upd H' p o) := fun b u q => by rw [upd_ne (ne_of_none q h)]; exact e b u q
theorem sl_small {n : Nat} (h : n ≤ 100000) : n ≤ sizeLine := Nat.le_trans h (by decide)
theorem sl_lt {n : Nat} (h : n < 100000) : n < sizeLine := Nat.lt_of_lt_of_le h (by decide)
theorem slr {n : Nat} (h : Nat.ble n 100000 = true) : n ≤ sizeLine := sl_small (Nat.le_of_ble_eq_true h)
theorem dec_t {p : Prop} [Decidable p] (h : p) : decide p = true := decide_eq_true h
def rLenK (K : PySem.W.Frag) : List V → Hp → VK → Prop := fun xs H Q => ∃ p ys, xs = [.ref p] ∧ (SqL K H p ys ∨ SqT K H p ys) ∧ Q (.int ys.length) H
def rListK (K : PySem.W.Frag) : List V → Hp → VK → Prop := fun xs H Q => ∃ p ys, xs = [.ref p] ∧ (SqL K H p ys ∨ SqT K H p ys) ∧ ∀ l, H l = none → Q (.ref l) (upd H l (.lst ys))
def rTupK (K : PySem.W.Frag) : List V → Hp → VK → Prop := fun xs H Q => ∃ p ys, xs = [.ref p] ∧ ((SqL K H p ys ∧ ∀ l, H l = none → Q (.ref l) (upd H l (.tup ys))) ∨ (SqT K H p ys ∧ Q (.ref p) H))
/-- what holds between two statements -/
theorem seq_key {t u : TS} {D : Ends} {σ : St} {H : Hp} (P : St → Hp → Prop) (h2 : ∀ σ H, P σ H → u D σ H) (h1 : (∀ σ H, P σ H → u D σ H) → t { D with nx := u D } σ H) : tSeq t u D σ H := h1 h2
/-- all but the object at b is as it was -/
def Apart (b : Addr) (H H' : Hp) : Prop := ∀ a o, a ≠ b → H a = some o → H' a = some o
theorem Apart.refl (b : Addr) (H : Hp) : Apart b H H := fun _ _ _ h => h
theorem Apart.trans {b : Addr} {H H1 H2 : Hp} (x : Apart b H H1) (y : Apart b H1 H2) : Apart b H H2 := fun a o n e => y a o n (x a o n e)
theorem _root_.L2.Same.apart {b : Addr} {H H' : Hp} (x : Same H H') : Apart b H H' := fun a o _ e => x a o e
theorem Apart.set {b : Addr} {H : Hp} (o : HO) : Apart b H (upd H b o) := fun a u n e => by rw [upd_ne n]; exact e
/-- the bag: its list of numbers l, the numbers ns, the place i, the rest c, the seed s, the count t -/
def bagL (l : Addr) (i c s t : Int) : List V := [.ref l, .int i, .int c, .int s, .int t]
structure Bag (H : Hp) (b l : Addr) : Prop where
  ex : ∃ (ns : List Int) (i c s t : Int), H b = some (.lst (bagL l i c s t)) ∧ H l = some (.lst (ns.map V.int)) ∧ 0 ≤ i ∧ 0 ≤ c ∧ 0 ≤ s ∧ s < 2147483647
theorem bag_ne {l : Addr} {i c s t : Int} {ns : List Int} : HO.lst (ns.map V.int) ≠ HO.lst (bagL l i c s t) := by
  intro e
  injection e with e
  cases ns with
  | nil => cases e
  | cons _ _ => cases e
theorem Bag.same {H H' : Hp} {b l : Addr} (x : Bag H b l) (e : Same H H') : Bag H' b l := by
  obtain ⟨ns, i, c, s, t, h1, h2, h⟩ := x.ex
  exact ⟨ns, i, c, s, t, e _ _ h1, e _ _ h2, h⟩
theorem Bag.there {H : Hp} {b l : Addr} (x : Bag H b l) : ∃ xs, H b = some (.lst xs) := by
  obtain ⟨ns, i, c, s, t, h1, _⟩ := x.ex
  exact ⟨_, h1⟩
theorem Bag.inner {H : Hp} {b l : Addr} (x : Bag H b l) : ∃ xs, H l = some (.lst xs) := by
  obtain ⟨ns, i, c, s, t, h1, h2, _⟩ := x.ex
  exact ⟨_, h2⟩
theorem Bag.new {H : Hp} {b l p : Addr} (x : Bag H b l) (h : H p = none) (o : HO) : Bag (upd H p o) b l := x.same (Same.new h o)
theorem Bag.ne {H : Hp} {b l p : Addr} (x : Bag H b l) (h : H p = none) : p ≠ b := by
  obtain ⟨_, h1⟩ := x.there
  exact (ne_of_none h1 h).symm
theorem Bag.ne2 {H : Hp} {b l p : Addr} (x : Bag H b l) (h : H p = none) : p ≠ l := by
  obtain ⟨_, h1⟩ := x.inner
  exact (ne_of_none h1 h).symm
theorem Bag.nt {H : Hp} {b l p : Addr} {xs : List V} (x : Bag H b l) (h : H p = some (.tup xs)) : p ≠ b := by
  obtain ⟨_, h1⟩ := x.there
  exact ne_of h h1 (fun z => nomatch z)
theorem Bag.upd {H : Hp} {b l p : Addr} {o : HO} (x : Bag H b l) (h1 : p ≠ b) (h2 : p ≠ l) : Bag (upd H p o) b l := by
  obtain ⟨ns, i, c, s, t, e1, e2, h⟩ := x.ex
  exact ⟨ns, i, c, s, t, by rw [upd_ne (Ne.symm h1)]; exact e1, by rw [upd_ne (Ne.symm h2)]; exact e2, h⟩
theorem Bag.put {H : Hp} {b l : Addr} {ns : List Int} {i c s t : Int} {i' c' s' t' : Int} (h1 : H b = some (.lst (bagL l i c s t))) (h2 : H l = some (.lst (ns.map V.int))) (hi : 0 ≤ i') (hc : 0 ≤ c') (hs : 0 ≤ s') (hs2 : s' < 2147483647) :
    Bag (L2.upd H b (.lst (bagL l i' c' s' t'))) b l := ⟨ns, i', c', s', t', upd_same, by rw [upd_ne (ne_of h2 h1 bag_ne)]; exact h2, hi, hc, hs, hs2⟩

def spBag (K : PySem.W.Frag) : Sp := fun vs H Q _ => ∃ (a : Addr) (ns : List Int), vs = [.ref a] ∧ SqL K H a (ns.map V.int) ∧ ns.length ≤ 63 ∧ ∀ (b l : Addr) (H' : Hp), Same H H' → H b = none → H l = none → Bag H' b l → Q (.ref b) H'
def spPull : Sp := fun vs H Q _ => ∃ (b l : Addr) (m : Int), vs = [.ref b, .int m] ∧ Bag H b l ∧ 0 < m ∧ m.natAbs < 2 ^ 200 ∧ ∀ (r : Int) (H' : Hp), 0 ≤ r → r < m → Apart b H H' → Bag H' b l → Q (.int r) H'
def spOf (K : PySem.W.Frag) : Sp := fun vs H Q _ => ∃ (b l a : Addr) (xs : List V), vs = [.ref b, .ref a] ∧ Bag H b l ∧ SqL K H a xs ∧ a ≠ b ∧ 0 < xs.length ∧ xs.length ≤ 1000 ∧ ∀ (i : Nat) (v : V) (H' : Hp), xs[i]? = some v → Apart b H H' → Bag H' b l → Q v H'

section
variable {P : Program} {w : World} {K : PySem.W.Frag} {mg : Str → Option Value} {base : Heap} {A : Ad}
theorem cut_ints (ns : List Int) (lo hi : Option Int) : ∃ ms : List Int, cutV (ns.map V.int) lo hi = ms.map V.int := by
  unfold cutV
  rw [← List.map_drop, ← List.map_take]
  exact ⟨_, rfl⟩
theorem int_at {ns : List Int} {i : Nat} {x : V} (h : (ns.map V.int)[i]? = some x) : ∃ u, x = V.int u := by
  rw [List.getElem?_map] at h
  cases e : ns[i]? with
  | none => rw [e] at h; cases h
  | some u => rw [e] at h; exact ⟨u, (Option.some.inj h).symm⟩
theorem ok_bag (T : Txt K mg A) : FnOk P w K mg base CX0 1 A.f_bag A.fd_bag ["_law_script"] (spBag K) := by
  refine T.d_bag.F.ok sc_bag (fun vs H Q E h => ?_) (fun cdv ar outer s H vs Q E hr h => ?_)
  · obtain ⟨a, ns, rfl, _⟩ := h
    rfl
  obtain ⟨a, ns, rfl, hS, h63, q⟩ := h
  refine ⟨_, (pss_cons (ps_set (i := 1) sc_bag.nd rfl (Or.inl rfl) pe_int)
    (pss_cons (ps_for PassesOwn.never rfl (pi_list (pe_slice (r := rSlL K) sl_list (pv 0) po_none (po_some pe_int))) (pg_name (i := 2) sc_bag.nd rfl (Or.inl rfl)) (pss_one (ps_set (i := 1) sc_bag.nd rfl (Or.inl rfl) (pe_op op_mod (pe_op op_add (pe_op op_add (pe_op op_mul (pv 1) pe_int) (pe_op op_mod (pv 2) pe_int)) pe_int) pe_int))))
    (pss_one (ps_ret (pe_lst (pa_cons (pe_callTy (r := rListK K) call_list_of (by rfl) T.list (by decide +kernel) (pa_cons (pe_slice (r := rSlL K) sl_list (pv 0) po_none (po_some pe_int)) pa_nil)) (pa_cons pe_int (pa_cons pe_int (pa_cons (pv 1) (pa_cons pe_int pa_nil)))))))))), ?_⟩
  refine ⟨_, rfl, 63, rfl, a, _, rfl, hS, fun p hp => ?_⟩
  refine ⟨p, rfl, ⟨_, SqL.of upd_same⟩, ?_⟩
  obtain ⟨ms, em⟩ := cut_ints ns none (some 63)
  have s1 : Same H (upd H p (.lst (cutV (ns.map V.int) none (some 63)))) := Same.new hp _
  refine for_list (xs := cutV (ns.map V.int) none (some 63)) (fun _ σ H' => ∃ (z : Int) (u : Option V), σ = [some (.ref a), some (.int z), u] ∧ 0 ≤ z ∧ z < 2147483647 ∧ H' = upd H p (.lst (cutV (ns.map V.int) none (some 63)))) ⟨3801, none, rfl, by decide, by decide, rfl⟩ ?_ ?_ ?_
  · rintro i σ H' _ ⟨z, u, _, _, _, rfl⟩
    exact SqL.of upd_same
  · rintro i x σ H' hi ⟨z, u, rfl, z0, z1, rfl⟩
    rw [em] at hi
    obtain ⟨y, rfl⟩ := int_at hi
    refine ⟨_, rfl, _, _, rfl, rfl, .inr ⟨by decide, by decide⟩, _, rfl, _, _, rfl, rfl, (by show (0 : Int) < 2147483549; decide), _, _, rfl, rfl, _, _, rfl, rfl, _, _, rfl, rfl, (by show (0 : Int) < 2147483647; decide), ?_⟩
    exact ⟨_, _, rfl, Int.emod_nonneg _ (by decide), Int.emod_lt_of_pos _ (by decide), rfl⟩
  · rintro σ H' ⟨z, u, rfl, z0, z1, rfl⟩
    refine ⟨_, rfl, 63, rfl, a, _, rfl, s1.seq hS, fun p2 hp2 => ?_⟩
    refine ⟨p2, _, rfl, .inl (SqL.of upd_same), fun l hl => ?_⟩
    refine ⟨_, rfl, (by show 5 ≤ sizeLine; decide), fun b hb => ?_⟩
    have s2 := s1.set (s1.free hp2) (.lst (cutV (ns.map V.int) none (some 63)))
    have s3 := s2.set (s2.free hl) (.lst (cutV (ns.map V.int) none (some 63)))
    have s4 := s3.set (s3.free hb) (.lst [.ref l, .int 0, .int 0, .int z, .int 0])
    refine q b l _ s4 (s3.free hb) (s2.free hl) ⟨ms, 0, 0, z, 0, upd_same, ?_, by decide, by decide, z0, z1⟩
    rw [upd_ne (ne_of_none upd_same hb), upd_same, em]
theorem ok_pull (T : Txt K mg A) : FnOk P w K mg base CX0 1 A.f_pull A.fd_pull ["_law_bag_here", "_law_many"] spPull := by
  refine T.d_pull.F.ok sc_pull (fun vs H Q E h => ?_) (fun cdv ar outer s H vs Q E hr h => ?_)
  · obtain ⟨b, l, m, rfl, _⟩ := h
    rfl
  obtain ⟨b, l, m, rfl, ⟨⟨ns, i, c, s, t, h1, h2, hi, hc, hs, hs2⟩⟩, hm, hm2, q⟩ := h
  refine ⟨_, (pss_cons (ps_if (PW.pt (pw_and (pt_cmpR op_eq (pe_ix (r := rIxL K) ix_list (pv 0) pe_int (fun _ _ => rfl)) pe_int (nomark _)) (pw_and1 (pt_cmpR op_lt (pe_ix (r := rIxL K) ix_list (pv 0) pe_int (fun _ _ => rfl)) (pe_callB (r := rLenK K) call_len_seq (by rfl) T.len (by decide +kernel) (pa_cons (pe_ix (r := rIxL K) ix_list (pv 0) pe_int (fun _ _ => rfl)) pa_nil)) (nomark _))))) (pss_cons (ps_set (i := 2) sc_pull.nd rfl (Or.inl rfl) (pe_ix (r := rIxL K) ix_list (pe_ix (r := rIxL K) ix_list (pv 0) pe_int (fun _ _ => rfl)) (pe_ix (r := rIxL K) ix_list (pv 0) pe_int (fun _ _ => rfl)) (fun _ _ => rfl)))
    (pss_cons (ps_asg (pe_op op_add (pe_ix (r := rIxL K) ix_list (pv 0) pe_int (fun _ _ => rfl)) pe_int) (pg_sub (pv 0) pe_int set_list))
    (pss_one (ps_if (pt_cmpR op_ge (pv 2) (pe_op op_pow pe_int pe_int) (nomark _)) (pss_one (ps_asg (pv 2) (pg_sub (pv 0) pe_int set_list))) (pss_one (ps_asg (pe_op op_mod (pe_op op_add (pe_op op_add (pe_op op_mul (pe_ix (r := rIxL K) ix_list (pv 0) pe_int (fun _ _ => rfl)) pe_int) (pe_op op_mul (pe_op op_mod (pv 2) pe_int) pe_int)) pe_int) pe_int) (pg_sub (pv 0) pe_int set_list))))))) pss_nil)
    (pss_cons (ps_if (pt_cmpR op_gt (pe_ix (r := rIxL K) ix_list (pv 0) pe_int (fun _ _ => rfl)) pe_int (nomark _)) (pss_cons (ps_set (i := 3) sc_pull.nd rfl (Or.inl rfl) (pe_op op_mod (pe_ix (r := rIxL K) ix_list (pv 0) pe_int (fun _ _ => rfl)) (pv 1)))
    (pss_cons (ps_asg (pe_op op_fdivW (pe_ix (r := rIxL K) ix_list (pv 0) pe_int (fun _ _ => rfl)) (pv 1)) (pg_sub (pv 0) pe_int set_list))
    (pss_one (ps_ret (pv 3))))) pss_nil)
    (pss_cons (ps_asg (pe_op op_add (pe_ix (r := rIxL K) ix_list (pv 0) pe_int (fun _ _ => rfl)) pe_int) (pg_sub (pv 0) pe_int set_list))
    (pss_cons (ps_set (i := 4) sc_pull.nd rfl (Or.inl rfl) (pe_op op_mod (pe_op op_add (pe_ix (r := rIxL K) ix_list (pv 0) pe_int (fun _ _ => rfl)) (pe_op op_mul (pe_ix (r := rIxL K) ix_list (pv 0) pe_int (fun _ _ => rfl)) pe_int)) pe_int))
    (pss_cons (ps_asg (pe_op op_mod (pe_op op_add (pe_op op_add (pe_op op_mul (pe_op op_mod (pe_op op_mul (pv 4) (pv 4)) pe_int) (pv 4)) (pe_op op_mul pe_int (pv 4))) pe_int) pe_int) (pg_sub (pv 0) pe_int set_list))
    (pss_one (ps_ret (pe_op op_mod (pe_op op_add (pe_op op_fdiv (pe_ix (r := rIxL K) ix_list (pv 0) pe_int (fun _ _ => rfl)) pe_int) (pe_op op_mul (pe_op op_mod (pe_ix (r := rIxL K) ix_list (pv 0) pe_int (fun _ _ => rfl)) pe_int) pe_int)) (pv 1))))))))), ?_⟩
  have hbL : SqL K H b (bagL l i c s t) := SqL.of h1
  have a0 : ∀ {i c s t : Int}, atI (bagL l i c s t) 0 = some (.ref l) := at_of (j := 0) rfl rfl
  have a1 : ∀ {i c s t : Int}, atI (bagL l i c s t) 1 = some (.int i) := at_of (j := 1) rfl rfl
  have a2 : ∀ {i c s t : Int}, atI (bagL l i c s t) 2 = some (.int c) := at_of (j := 2) rfl rfl
  have a3 : ∀ {i c s t : Int}, atI (bagL l i c s t) 3 = some (.int s) := at_of (j := 3) rfl rfl
  have a4 : ∀ {i c s t : Int}, atI (bagL l i c s t) 4 = some (.int t) := at_of (j := 4) rfl rfl
  refine seq_key (fun σ' H' => ∃ (i c s : Int) (u : Option V), σ' = [some (.ref b), some (.int m), u, none, none] ∧ 0 ≤ i ∧ 0 ≤ c ∧ 0 ≤ s ∧ s < 2147483647 ∧ Apart b H H' ∧ H' b = some (.lst (bagL l i c s t)) ∧ H' l = some (.lst (ns.map V.int))) ?_ (fun k => ?_)
  · rintro σ' H' ⟨i, c, s, u, rfl, hi, hc, hs, hs2, hA, h1, h2⟩
    have hbL : SqL K H' b (bagL l i c s t) := SqL.of h1
    refine seq_key (fun σ' H2 => σ' = [some (.ref b), some (.int m), u, none, none] ∧ H' = H2) ?_ (fun k => ?_)
    · rintro _ _ ⟨rfl, rfl⟩
      -- the count, the seed, the draw
      refine ⟨_, rfl, b, _, _, _, rfl, rfl, hbL, a4, _, _, rfl, rfl, _, rfl, b, _, _, _, rfl, rfl, h1, rfl, ?_⟩
      refine ⟨_, rfl, b, _, _, _, rfl, rfl, SqL.of upd_same, at_of (j := 3) rfl rfl, _, rfl, b, _, _, _, rfl, rfl, SqL.of upd_same, at_of (j := 4) rfl rfl, _, _, rfl, rfl, .inr ⟨by decide, by decide⟩, _, _, rfl, rfl, _, _, rfl, rfl, (by show (0 : Int) < 2147483647; decide), ?_⟩
      have d0 : 0 ≤ (s + (t + 1) * 7919) % 2147483647 := Int.emod_nonneg _ (by decide)
      have d1 : (s + (t + 1) * 7919) % 2147483647 < 2147483647 := Int.emod_lt_of_pos _ (by decide)
      have d2 : -(2 ^ 64) < (s + (t + 1) * 7919) % 2147483647 ∧ (s + (t + 1) * 7919) % 2147483647 < 2 ^ 64 := ⟨by omega, by omega⟩
      refine ⟨_, rfl, _, rfl, _, _, rfl, rfl, .inr d2, _, _, rfl, rfl, (by show (0 : Int) < 2147483629; decide), _, rfl, _, _, rfl, rfl, .inr d2, _, rfl, _, _, rfl, rfl, .inl ⟨by decide, by decide⟩, _, _, rfl, rfl, _, _, rfl, rfl, _, _, rfl, rfl, (by show (0 : Int) < 2147483647; decide), ?_⟩
      refine ⟨_, rfl, b, _, _, _, rfl, rfl, upd_same, rfl, ?_⟩
      refine ⟨_, rfl, b, _, _, _, rfl, rfl, SqL.of upd_same, at_of (j := 3) rfl rfl, _, _, rfl, rfl, ⟨by decide, by decide⟩, _, rfl, b, _, _, _, rfl, rfl, SqL.of upd_same, at_of (j := 3) rfl rfl, _, _, rfl, rfl, (by show (0 : Int) < 8191; decide), _, _, rfl, rfl, .inr ⟨by decide, by decide⟩, _, _, rfl, rfl, _, rfl, _, _, rfl, rfl, hm, ?_⟩
      refine q _ _ (Int.emod_nonneg _ (Int.ne_of_gt hm)) (Int.emod_lt_of_pos _ hm) ((hA.trans (Apart.set _)).trans (Apart.set _)) ?_
      refine Bag.put (i := i) (c := c) (s := s) (t := t + 1) (ns := ns) (i' := i) (c' := c) (t' := t + 1) upd_same ?_ hi hc (Int.emod_nonneg _ (by decide)) (Int.emod_lt_of_pos _ (by decide))
      rw [upd_ne (ne_of h2 h1 bag_ne)]
      exact h2
    · refine ⟨_, rfl, b, _, _, _, rfl, rfl, hbL, a2, _, _, rfl, rfl, _, rfl, ?_⟩
      refine ite2 (fun c0 => ?_) (fun c0 => ?_)
      · refine ⟨_, rfl, b, _, _, _, rfl, rfl, hbL, a2, _, rfl, _, _, rfl, rfl, hm, ?_⟩
        refine ⟨_, rfl, b, _, _, _, rfl, rfl, hbL, a2, _, rfl, _, _, rfl, rfl, wide_div hm hm2 (by decide) (by decide), _, rfl, b, _, _, _, rfl, rfl, h1, rfl, ?_⟩
        refine ⟨_, rfl, ?_⟩
        refine q _ _ (Int.emod_nonneg _ (Int.ne_of_gt hm)) (Int.emod_lt_of_pos _ hm) (hA.trans (Apart.set _)) ?_
        exact Bag.put h1 h2 hi (Int.ediv_nonneg hc (Int.le_of_lt hm)) hs hs2
      · exact k _ _ ⟨rfl, rfl⟩
  · refine ⟨_, rfl, b, _, _, _, rfl, rfl, hbL, a2, rfl, _, rfl, ?_⟩
    refine ite2 (fun c0 => ?_) (fun c0 => ?_)
    · refine ⟨_, rfl, b, _, _, _, rfl, rfl, hbL, a1, _, rfl, b, _, _, _, rfl, rfl, hbL, a0, l, _, rfl, .inl (SqL.of h2), _, _, rfl, rfl, _, rfl, ?_⟩
      refine ite2 (fun c1 => ?_) (fun c1 => ?_)
      · have c2 : i < (((ns.map V.int).length : Nat) : Int) := of_decide_eq_true c1
        rw [List.length_map] at c2
        obtain ⟨z, hz⟩ : ∃ z : Int, (ns.map V.int)[i.toNat]? = some (.int z) := by
          rw [List.getElem?_map, List.getElem?_eq_getElem (by omega)]
          exact ⟨_, rfl⟩
        refine ⟨_, rfl, b, _, _, _, rfl, rfl, hbL, a0, _, rfl, b, _, _, _, rfl, rfl, hbL, a1, l, _, _, _, rfl, rfl, SqL.of h2, at_of (j := i.toNat) (by omega) hz, ?_⟩
        refine ⟨_, rfl, b, _, _, _, rfl, rfl, hbL, a1, _, _, rfl, rfl, _, rfl, b, _, _, _, rfl, rfl, h1, rfl, ?_⟩
        have g1 : SqL K (upd H b (.lst (bagL l (i + 1) c s t))) b (bagL l (i + 1) c s t) := SqL.of upd_same
        have g2 : upd H b (.lst (bagL l (i + 1) c s t)) l = some (.lst (ns.map V.int)) := by
          rw [upd_ne (ne_of h2 h1 bag_ne)]
          exact h2
        refine ⟨_, rfl, _, _, rfl, rfl, ⟨by decide, by decide, by decide⟩, _, _, rfl, rfl, _, rfl, ?_⟩
        refine ite2 (fun c3 => ?_) (fun c3 => ?_)
        · have c4 : (10 : Int) ^ (18 : Int).toNat ≤ z := of_decide_eq_true c3
          have c5 : (0 : Int) ≤ z := Int.le_trans (by decide) c4
          refine ⟨_, rfl, _, rfl, b, _, _, _, rfl, rfl, upd_same, rfl, ?_⟩
          refine k _ _ ⟨i + 1, z, s, _, rfl, by omega, c5, hs, hs2, (Apart.set _).trans (Apart.set _), upd_same, ?_⟩
          rw [upd_ne (ne_of h2 h1 bag_ne)]
          exact g2
        · refine ⟨_, rfl, b, _, _, _, rfl, rfl, g1, a3, _, _, rfl, rfl, .inr ⟨by decide, by decide⟩, _, rfl, _, _, rfl, rfl, (by show (0 : Int) < 2147483549; decide), _, _, rfl, rfl, .inr ⟨by decide, by decide⟩, _, _, rfl, rfl, _, _, rfl, rfl, _, _, rfl, rfl, (by show (0 : Int) < 2147483647; decide), ?_⟩
          refine ⟨_, rfl, b, _, _, _, rfl, rfl, upd_same, rfl, ?_⟩
          refine k _ _ ⟨i + 1, c, _, _, rfl, by omega, hc, Int.emod_nonneg _ (by decide), Int.emod_lt_of_pos _ (by decide), (Apart.set _).trans (Apart.set _), upd_same, ?_⟩
          rw [upd_ne (ne_of h2 h1 bag_ne)]
          exact g2
      · exact k _ _ ⟨i, c, s, _, rfl, hi, hc, hs, hs2, Apart.refl b H, h1, h2⟩
    · exact k _ _ ⟨i, c, s, _, rfl, hi, hc, hs, hs2, Apart.refl b H, h1, h2⟩
theorem Apart.seq {K : PySem.W.Frag} {b a : Addr} {H H' : Hp} {xs : List V} (e : Apart b H H') (n : a ≠ b) (h : SqL K H a xs) : SqL K H' a xs := by
  rcases h with (h | ⟨o, h⟩) | h
  · exact .inl (.inl (e _ _ n h))
  · exact .inl (.inr ⟨o, e _ _ n h⟩)
  · exact .inr h
theorem ok_of (T : Txt K mg A) : FnOk P w K mg base CX0 2 A.f_of A.fd_of ["_law_bag_here", "_law_some"] (spOf K) := by
  refine T.d_of.F.ok sc_of (fun vs H Q E h => ?_) (fun cdv ar outer s H vs Q E hr h => ?_)
  · obtain ⟨b, l, a, xs, rfl, _⟩ := h
    rfl
  obtain ⟨b, l, a, xs, rfl, hB, hS, hn, h0, h1, q⟩ := h
  refine ⟨_, (pss_one (ps_ret (pe_ix (r := rIx K) ix_seq (pv 1) (pe_call (ok_pull T) (hr.mono (by decide)) rfl T.d_pull.m T.d_pull.F.kp T.d_pull.b .nil pass0 (pa_cons (pv 0) (pa_cons (pe_callB (r := rLenK K) call_len_seq (by rfl) T.len (by decide +kernel) (pa_cons (pv 1) pa_nil)) pa_nil))) (fun _ _ => rfl)))), ?_⟩
  refine ⟨_, rfl, _, rfl, _, rfl, a, _, rfl, .inl hS, b, l, _, rfl, hB, by omega, Nat.lt_of_le_of_lt (show ((xs.length : Nat) : Int).natAbs ≤ 1000 by omega) (by decide), fun r H' r0 r1 ap bg => ?_⟩
  have hi : r.toNat < xs.length := by omega
  refine .inl ⟨a, _, _, _, rfl, rfl, ap.seq hn hS, at_of (j := r.toNat) (by omega) (List.getElem?_eq_getElem hi), ?_⟩
  exact q r.toNat _ H' (List.getElem?_eq_getElem hi) ap bg

/-! ### the comparison -/
/-- two flat values are one -/
def Flat : V → Prop
  | .non => True
  | .bl _ => True
  | .int _ => True
  | .str _ => True
  | _ => False
/-- x and y hold the same data, at most n lists one in another -/
def EqD (K : PySem.W.Frag) (H : Hp) : Nat → V → V → Prop
  | 0, x, y => x = y ∧ Flat x
  | n + 1, x, y => (x = y ∧ Flat x) ∨ (∃ (a b : Addr) (xs ys : List V), x = .ref a ∧ y = .ref b ∧ H a = some (.lst xs) ∧ H b = some (.lst ys) ∧ Paired (EqD K H n) xs ys ∧ xs.length ≤ 100000) ∨
    (∃ (a b : Addr) (xs ys : List V), x = .ref a ∧ y = .ref b ∧ H a = some (.tup xs) ∧ H b = some (.tup ys) ∧ Paired (EqD K H n) xs ys ∧ xs.length ≤ 100000)
theorem EqD.flat {K : PySem.W.Frag} {H : Hp} {x : V} (h : Flat x) : ∀ {n : Nat}, EqD K H n x x
  | 0 => ⟨rfl, h⟩
  | _ + 1 => .inl ⟨rfl, h⟩
theorem paired_imp {α β : Type} {R S : α → β → Prop} (f : ∀ a b, R a b → S a b) : ∀ {xs : List α} {ys : List β}, Paired R xs ys → Paired S xs ys
  | _, _, .nil => .nil
  | _, _, .cons h t => .cons (f _ _ h) (paired_imp f t)
theorem EqD.mono {K : PySem.W.Frag} {H H' : Hp} (e : Same H H') : ∀ {n : Nat} {x y : V}, EqD K H n x y → EqD K H' n x y
  | 0, _, _, h => h
  | n + 1, x, y, h => by
    rcases h with h | ⟨a, b, xs, ys, h1, h2, h3, h4, h5, h6⟩ | ⟨a, b, xs, ys, h1, h2, h3, h4, h5, h6⟩
    · exact .inl h
    · exact .inr (.inl ⟨a, b, xs, ys, h1, h2, e _ _ h3, e _ _ h4, paired_imp (fun _ _ z => EqD.mono e z) h5, h6⟩)
    · exact .inr (.inr ⟨a, b, xs, ys, h1, h2, e _ _ h3, e _ _ h4, paired_imp (fun _ _ z => EqD.mono e z) h5, h6⟩)
theorem paired_len {α β : Type} {R : α → β → Prop} : ∀ {xs : List α} {ys : List β}, Paired R xs ys → xs.length = ys.length
  | _, _, .nil => rfl
  | _, _, .cons _ t => congrArg (· + 1) (paired_len t)
theorem paired_at {α β : Type} {R : α → β → Prop} : ∀ {xs : List α} {ys : List β} {i : Nat} {y : β}, Paired R xs ys → ys[i]? = some y → ∃ x, xs[i]? = some x ∧ R x y
  | _, _, _, _, .nil, e => by cases e
  | x :: _, _, 0, _, .cons r _, e => by cases e; exact ⟨x, rfl, r⟩
  | _, _, i + 1, y, .cons _ t, e => by
    obtain ⟨x, h1, h2⟩ := paired_at (i := i) (y := y) t (by simpa using e)
    exact ⟨x, by simpa using h1, h2⟩
def spSame (K : PySem.W.Frag) (n : Nat) : Sp := fun vs H Q _ => ∃ (x y : V), vs = [x, y] ∧ EqD K H n x y ∧ ∀ (H' : Hp), Same H H' → Q (.bl true) H'
theorem kt_lt {t : String} {b : Bool} (h1 : kitB t "list" = some false) (h2 : kitB t "tuple" = some b) : PySem.W.kitAny K (.type t) [.type "list", .type "tuple"] = some b :=
  kitAny_cons (kit_ty h1) (fun _ => by
    cases b with
    | true => exact kitAny_cons (kit_ty h2) (fun z => nomatch z) (fun _ => rfl)
    | false => exact kitAny_cons (kit_ty h2) (fun _ => kitAny_nil) (fun z => nomatch z)) (fun z => nomatch z)
theorem kt_l : PySem.W.kitAny K (.type "list") [.type "list", .type "tuple"] = some true := kitAny_cons (b := true) (kit_ty (by decide +kernel)) (fun z => Bool.noConfusion z) (fun _ => rfl)
theorem kt_t : PySem.W.kitAny K (.type "tuple") [.type "list", .type "tuple"] = some true := kt_lt (by decide +kernel) (by decide +kernel)
theorem cls2 : Paired ClsV [V.ty "list", V.ty "tuple"] [Value.type "list", Value.type "tuple"] := .cons (.ty _) (.cons (.ty _) .nil)
theorem isi_flat {v : V} (h : Flat v) (hn : v ≠ .non) : ∃ (t : String) (a b c : Bool), (∀ H, TyX K H v (.type t)) ∧ kitB t "list" = some false ∧ kitB t "tuple" = some false ∧ kitB t "bool" = some a ∧ kitB t "int" = some b ∧ kitB t "str" = some c := by
  cases v with
  | non => exact absurd rfl hn
  | bl b => exact ⟨"bool", true, true, false, fun _ => .base (.bl b), by decide +kernel, by decide +kernel, by decide +kernel, by decide +kernel, by decide +kernel⟩
  | int i => exact ⟨"int", false, true, false, fun _ => .base (.int i), by decide +kernel, by decide +kernel, by decide +kernel, by decide +kernel, by decide +kernel⟩
  | str x => exact ⟨"str", false, false, true, fun _ => .base (.str x), by decide +kernel, by decide +kernel, by decide +kernel, by decide +kernel, by decide +kernel⟩
  | byt _ => exact h.elim
  | flt _ => exact h.elim
  | ref _ => exact h.elim
  | ty _ => exact h.elim
theorem scal_flat {v : V} (h : Flat v) : scal v v = true := by
  cases v <;> first | rfl | exact h.elim
theorem ne_bl (a : Bool) : (!decide (V.bl a = V.bl a)) = false := by rw [decide_eq_true rfl]; rfl
theorem ok_same_step (T : Txt K mg A) (n : Nat) (G : ∀ m, n = m + 1 → FnOk P w K mg base CX0 n A.f_same A.fd_same ["_law_found", "_law_due"] (spSame K m)) : FnOk P w K mg base CX0 (n + 1) A.f_same A.fd_same ["_law_found", "_law_due"] (spSame K n) := by
  refine T.d_same.F.ok sc_same (fun vs H Q E h => ?_) (fun cdv ar outer s H vs Q E hr h => ?_)
  · obtain ⟨x, y, rfl, _⟩ := h
    rfl
  obtain ⟨x, y, rfl, hE, q⟩ := h
  by_cases hf : Flat x ∧ x = y
  · obtain ⟨hf, rfl⟩ := hf
    have G : FnOk P w K mg base CX0 n A.f_same A.fd_same ["_law_found", "_law_due"] (fun _ _ _ _ => False) := ⟨fun _ _ _ _ h => h.elim, fun _ _ _ _ _ _ _ _ _ _ _ _ _ h => h.elim⟩
    refine ⟨_, (pss_cons (ps_if (PW.pt (pw_or (pt_cmpR op_isN (pv 1) pe_non (nomark _)) (pw_or1 (pt_cmpR op_isN (pv 0) pe_non (nomark _))))) (pss_one (ps_ret (pe_and (pe_cmpR op_isN (pv 0) pe_non (nomark _)) (pe_one (pe_cmpR op_isN (pv 1) pe_non (nomark _)))))) pss_nil)
    (pss_cons (ps_if (pt_val (pe_callB (r := rIsiT K) call_isiT (by rfl) T.isinstance (by decide +kernel) (pa_cons (pv 1) (pa_cons (pe_tup (pa_cons (pe_bltn (v := .ty "list") (u := .type "list") (by rfl) T.list (by decide +kernel) rfl) (pa_cons (pe_bltn (v := .ty "tuple") (u := .type "tuple") (by rfl) T.tuple (by decide +kernel) rfl) pa_nil))) pa_nil)))) (pss_cons (ps_if (PW.pt (pw_or (pt_cmpR op_ne (pe_callB (r := rIsi K) call_isi (by rfl) T.isinstance (by decide +kernel) (pa_cons (pv 0) (pa_cons (pe_bltn (v := .ty "list") (u := .type "list") (by rfl) T.list (by decide +kernel) rfl) pa_nil))) (pe_callB (r := rIsi K) call_isi (by rfl) T.isinstance (by decide +kernel) (pa_cons (pv 1) (pa_cons (pe_bltn (v := .ty "list") (u := .type "list") (by rfl) T.list (by decide +kernel) rfl) pa_nil))) (nomark _)) (pw_or1 (pt_cmpR op_ne (pe_callB (r := rIsi K) call_isi (by rfl) T.isinstance (by decide +kernel) (pa_cons (pv 0) (pa_cons (pe_bltn (v := .ty "tuple") (u := .type "tuple") (by rfl) T.tuple (by decide +kernel) rfl) pa_nil))) (pe_callB (r := rIsi K) call_isi (by rfl) T.isinstance (by decide +kernel) (pa_cons (pv 1) (pa_cons (pe_bltn (v := .ty "tuple") (u := .type "tuple") (by rfl) T.tuple (by decide +kernel) rfl) pa_nil))) (nomark _))))) (pss_one (ps_ret pe_bl)) pss_nil)
    (pss_one (ps_ret (pe_and (pe_cmpR op_eq (pe_callB (r := rLenK K) call_len_seq (by rfl) T.len (by decide +kernel) (pa_cons (pv 0) pa_nil)) (pe_callB (r := rLenK K) call_len_seq (by rfl) T.len (by decide +kernel) (pa_cons (pv 1) pa_nil)) (nomark _)) (pe_one (pe_callB (r := rAll K) (cr_all rfl) (by rfl) T.all (by decide +kernel) (pa_cons (pe_lc (own := [("_law_k", 2)]) (g := gName 2) (tt := tYes) rfl sc_same.nd (pi_range1 rfl T.range (pa_cons (pe_callB (r := rLenK K) call_len_seq (by rfl) T.len (by decide +kernel) (pa_cons (pv 1) pa_nil)) pa_nil)) (blkOk_by (own := [("_law_k", 2)]) (N := ["_law_found", "_law_due", "_law_k"]) (sc := defScope s_same) (by decide +kernel)) (fun _ _ _ _ _ => (pg_name (i := 2) sc_same.nd rfl (Or.inl rfl))) (fun _ _ _ _ _ => pts_nil) (fun _ _ _ _ _ => (pe_call G hr rfl T.d_same.m T.d_same.F.kp T.d_same.b .nil pass0 (pa_cons (pe_ix (r := rIx K) ix_seq (pv 0) (pv 2) (fun _ _ => rfl)) (pa_cons (pe_ix (r := rIx K) ix_seq (pv 1) (pv 2) (fun _ _ => rfl)) pa_nil))))) pa_nil))))))) pss_nil)
    (pss_cons (ps_if (PW.pt (pw_or (pt_cmpR op_ne (pe_callB (r := rIsi K) call_isi (by rfl) T.isinstance (by decide +kernel) (pa_cons (pv 1) (pa_cons (pe_bltn (v := .ty "bool") (u := .type "bool") (by rfl) T.bool (by decide +kernel) rfl) pa_nil))) (pe_callB (r := rIsi K) call_isi (by rfl) T.isinstance (by decide +kernel) (pa_cons (pv 0) (pa_cons (pe_bltn (v := .ty "bool") (u := .type "bool") (by rfl) T.bool (by decide +kernel) rfl) pa_nil))) (nomark _)) (pw_or1 (pt_cmpR op_ne (pe_callB (r := rIsi K) call_isi (by rfl) T.isinstance (by decide +kernel) (pa_cons (pv 1) (pa_cons (pe_bltn (v := .ty "int") (u := .type "int") (by rfl) T.int (by decide +kernel) rfl) pa_nil))) (pe_callB (r := rIsi K) call_isi (by rfl) T.isinstance (by decide +kernel) (pa_cons (pv 0) (pa_cons (pe_bltn (v := .ty "int") (u := .type "int") (by rfl) T.int (by decide +kernel) rfl) pa_nil))) (nomark _))))) (pss_one (ps_ret pe_bl)) pss_nil)
    (pss_one (ps_ret (pe_and (pe_cmpR op_eq (pe_callB (r := rIsi K) call_isi (by rfl) T.isinstance (by decide +kernel) (pa_cons (pv 1) (pa_cons (pe_bltn (v := .ty "str") (u := .type "str") (by rfl) T.str (by decide +kernel) rfl) pa_nil))) (pe_callB (r := rIsi K) call_isi (by rfl) T.isinstance (by decide +kernel) (pa_cons (pv 0) (pa_cons (pe_bltn (v := .ty "str") (u := .type "str") (by rfl) T.str (by decide +kernel) rfl) pa_nil))) (nomark _)) (pe_one (pe_cmpR op_eq (pv 0) (pv 1) (nomark _))))))))), ?_⟩
    by_cases hn : x = .non
    · subst hn
      refine ⟨_, rfl, rfl, _, rfl, iteT (iteT ?_)⟩
      refine ⟨_, rfl, rfl, _, rfl, iteT ⟨_, rfl, rfl, ?_⟩⟩
      exact q _ (Same.refl H)
    · have d0 : decide (x = V.non) = false := decide_eq_false hn
      refine ⟨_, rfl, rfl, _, rfl, ?_⟩
      rw [d0]
      refine iteF ⟨_, rfl, rfl, _, rfl, ?_⟩
      rw [d0]
      refine iteF ?_
      obtain ⟨t, a, b, c, ty, k1, k2, k3, k4, k5⟩ := isi_flat (K := K) hf hn
      refine ⟨_, rfl, sl_small (by decide), fun p hp => ⟨_, p, _, _, _, false, rfl, upd_same, cls2, ty _, kt_lt k1 k2, _, rfl, iteF ?_⟩⟩
      refine ⟨_, rfl, _, _, _, _, _, rfl, .ty _, ty _, kit_ty k3, _, rfl, _, _, _, _, _, rfl, .ty _, ty _, kit_ty k3, rfl, _, rfl, ?_⟩
      rw [ne_bl]
      refine iteF ⟨_, rfl, _, _, _, _, _, rfl, .ty _, ty _, kit_ty k4, _, rfl, _, _, _, _, _, rfl, .ty _, ty _, kit_ty k4, rfl, _, rfl, ?_⟩
      rw [ne_bl]
      refine iteF ⟨_, rfl, _, _, _, _, _, rfl, .ty _, ty _, kit_ty k5, _, rfl, _, _, _, _, _, rfl, .ty _, ty _, kit_ty k5, rfl, _, rfl, ?_⟩
      rw [decide_eq_true rfl]
      refine iteT ⟨_, rfl, _, rfl, scal_flat hf, ?_⟩
      rw [decide_eq_true rfl]
      exact q _ (Same.new hp _)
  · -- two lists, or two tuples
    obtain ⟨m, rfl, b1, a, b, xs, ys, T1, rfl, rfl, hP, hl⟩ : ∃ (m : Nat), n = m + 1 ∧ ∃ (tl : Bool) (a b : Addr) (xs ys : List V) (_ : H a = some (if tl then HO.lst xs else HO.tup xs) ∧ H b = some (if tl then HO.lst ys else HO.tup ys)), x = .ref a ∧ y = .ref b ∧ Paired (EqD K H m) xs ys ∧ xs.length ≤ 100000 := by
      cases n with
      | zero => exact absurd ⟨hE.2, hE.1⟩ hf
      | succ m =>
        rcases hE with h | ⟨a, b, xs, ys, h1, h2, h3, h4, h5, h6⟩ | ⟨a, b, xs, ys, h1, h2, h3, h4, h5, h6⟩
        · exact absurd ⟨h.2, h.1⟩ hf
        · exact ⟨m, rfl, true, a, b, xs, ys, ⟨h3, h4⟩, h1, h2, h5, h6⟩
        · exact ⟨m, rfl, false, a, b, xs, ys, ⟨h3, h4⟩, h1, h2, h5, h6⟩
    obtain ⟨ha, hb⟩ := T1
    have G := G m rfl
    have hlen := paired_len hP
    have seq : ∀ {H' : Hp} {a : Addr} {xs : List V}, H' a = some (if b1 then HO.lst xs else HO.tup xs) → SqL K H' a xs ∨ SqT K H' a xs := fun {H' a xs} h => by
      cases b1 with
      | true => exact .inl (SqL.of h)
      | false => exact .inr (SqT.of h)
    have ixs : ∀ {H' : Hp} {a : Addr} {xs : List V} {i : Nat} {v : V} {Q : VK}, H' a = some (if b1 then HO.lst xs else HO.tup xs) → xs[i]? = some v → Q v H' → rIx K (.ref a) (.int (0 + (i : Int))) H' Q := fun {H' a xs i v Q} h e k => by
      cases b1 with
      | true => exact .inl ⟨a, _, _, _, rfl, rfl, SqL.of h, at_of (j := i) (by omega) e, k⟩
      | false => exact .inr (.inl ⟨a, _, _, _, rfl, rfl, SqT.of h, at_of (j := i) (by omega) e, k⟩)
    obtain ⟨t, ty, k1, k2, k3⟩ : ∃ t : String, (∀ (H' : Hp) (a : Addr) (xs : List V), H' a = some (if b1 then HO.lst xs else HO.tup xs) → TyX K H' (.ref a) (.type t)) ∧ PySem.W.kitAny K (.type t) [.type "list", .type "tuple"] = some true ∧ (∃ c, kitB t "list" = some c) ∧ (∃ c, kitB t "tuple" = some c) := by
      cases b1 with
      | true => exact ⟨"list", fun _ _ _ h => .base (.lst h), kt_l, ⟨true, by decide +kernel⟩, ⟨false, by decide +kernel⟩⟩
      | false => exact ⟨"tuple", fun _ _ _ h => .base (.tup h), kt_t, ⟨false, by decide +kernel⟩, ⟨true, by decide +kernel⟩⟩
    obtain ⟨⟨c1, k2⟩, ⟨c2, k3⟩⟩ := And.intro k2 k3
    refine ⟨_, (pss_cons (ps_if (PW.pt (pw_or (pt_cmpR op_isN (pv 1) pe_non (nomark _)) (pw_or1 (pt_cmpR op_isN (pv 0) pe_non (nomark _))))) (pss_one (ps_ret (pe_and (pe_cmpR op_isN (pv 0) pe_non (nomark _)) (pe_one (pe_cmpR op_isN (pv 1) pe_non (nomark _)))))) pss_nil)
    (pss_cons (ps_if (pt_val (pe_callB (r := rIsiT K) call_isiT (by rfl) T.isinstance (by decide +kernel) (pa_cons (pv 1) (pa_cons (pe_tup (pa_cons (pe_bltn (v := .ty "list") (u := .type "list") (by rfl) T.list (by decide +kernel) rfl) (pa_cons (pe_bltn (v := .ty "tuple") (u := .type "tuple") (by rfl) T.tuple (by decide +kernel) rfl) pa_nil))) pa_nil)))) (pss_cons (ps_if (PW.pt (pw_or (pt_cmpR op_ne (pe_callB (r := rIsi K) call_isi (by rfl) T.isinstance (by decide +kernel) (pa_cons (pv 0) (pa_cons (pe_bltn (v := .ty "list") (u := .type "list") (by rfl) T.list (by decide +kernel) rfl) pa_nil))) (pe_callB (r := rIsi K) call_isi (by rfl) T.isinstance (by decide +kernel) (pa_cons (pv 1) (pa_cons (pe_bltn (v := .ty "list") (u := .type "list") (by rfl) T.list (by decide +kernel) rfl) pa_nil))) (nomark _)) (pw_or1 (pt_cmpR op_ne (pe_callB (r := rIsi K) call_isi (by rfl) T.isinstance (by decide +kernel) (pa_cons (pv 0) (pa_cons (pe_bltn (v := .ty "tuple") (u := .type "tuple") (by rfl) T.tuple (by decide +kernel) rfl) pa_nil))) (pe_callB (r := rIsi K) call_isi (by rfl) T.isinstance (by decide +kernel) (pa_cons (pv 1) (pa_cons (pe_bltn (v := .ty "tuple") (u := .type "tuple") (by rfl) T.tuple (by decide +kernel) rfl) pa_nil))) (nomark _))))) (pss_one (ps_ret pe_bl)) pss_nil)
    (pss_one (ps_ret (pe_and (pe_cmpR op_eq (pe_callB (r := rLenK K) call_len_seq (by rfl) T.len (by decide +kernel) (pa_cons (pv 0) pa_nil)) (pe_callB (r := rLenK K) call_len_seq (by rfl) T.len (by decide +kernel) (pa_cons (pv 1) pa_nil)) (nomark _)) (pe_one (pe_callB (r := rAll K) (cr_all rfl) (by rfl) T.all (by decide +kernel) (pa_cons (pe_lc (own := [("_law_k", 2)]) (g := gName 2) (tt := tYes) rfl sc_same.nd (pi_range1 rfl T.range (pa_cons (pe_callB (r := rLenK K) call_len_seq (by rfl) T.len (by decide +kernel) (pa_cons (pv 1) pa_nil)) pa_nil)) (blkOk_by (own := [("_law_k", 2)]) (N := ["_law_found", "_law_due", "_law_k"]) (sc := defScope s_same) (by decide +kernel)) (fun _ _ _ _ _ => (pg_name (i := 2) sc_same.nd rfl (Or.inl rfl))) (fun _ _ _ _ _ => pts_nil) (fun _ _ _ _ _ => (pe_call G hr rfl T.d_same.m T.d_same.F.kp T.d_same.b .nil pass0 (pa_cons (pe_ix (r := rIx K) ix_seq (pv 0) (pv 2) (fun _ _ => rfl)) (pa_cons (pe_ix (r := rIx K) ix_seq (pv 1) (pv 2) (fun _ _ => rfl)) pa_nil))))) pa_nil))))))) pss_nil)
    (pss_cons (ps_if (PW.pt (pw_or (pt_cmpR op_ne (pe_callB (r := rIsi K) call_isi (by rfl) T.isinstance (by decide +kernel) (pa_cons (pv 1) (pa_cons (pe_bltn (v := .ty "bool") (u := .type "bool") (by rfl) T.bool (by decide +kernel) rfl) pa_nil))) (pe_callB (r := rIsi K) call_isi (by rfl) T.isinstance (by decide +kernel) (pa_cons (pv 0) (pa_cons (pe_bltn (v := .ty "bool") (u := .type "bool") (by rfl) T.bool (by decide +kernel) rfl) pa_nil))) (nomark _)) (pw_or1 (pt_cmpR op_ne (pe_callB (r := rIsi K) call_isi (by rfl) T.isinstance (by decide +kernel) (pa_cons (pv 1) (pa_cons (pe_bltn (v := .ty "int") (u := .type "int") (by rfl) T.int (by decide +kernel) rfl) pa_nil))) (pe_callB (r := rIsi K) call_isi (by rfl) T.isinstance (by decide +kernel) (pa_cons (pv 0) (pa_cons (pe_bltn (v := .ty "int") (u := .type "int") (by rfl) T.int (by decide +kernel) rfl) pa_nil))) (nomark _))))) (pss_one (ps_ret pe_bl)) pss_nil)
    (pss_one (ps_ret (pe_and (pe_cmpR op_eq (pe_callB (r := rIsi K) call_isi (by rfl) T.isinstance (by decide +kernel) (pa_cons (pv 1) (pa_cons (pe_bltn (v := .ty "str") (u := .type "str") (by rfl) T.str (by decide +kernel) rfl) pa_nil))) (pe_callB (r := rIsi K) call_isi (by rfl) T.isinstance (by decide +kernel) (pa_cons (pv 0) (pa_cons (pe_bltn (v := .ty "str") (u := .type "str") (by rfl) T.str (by decide +kernel) rfl) pa_nil))) (nomark _)) (pe_one (pe_cmpR op_eq (pv 0) (pv 1) (nomark _))))))))), ?_⟩
    refine ⟨_, rfl, rfl, _, rfl, iteF ?_⟩
    refine ⟨_, rfl, rfl, _, rfl, iteF ?_⟩
    refine ⟨_, rfl, sl_small (by decide), fun p hp => ?_⟩
    have s1 : Same H (upd H p (.tup [V.ty "list", V.ty "tuple"])) := Same.new hp _
    refine ⟨_, p, _, _, _, true, rfl, upd_same, cls2, ty _ _ _ (s1 _ _ hb), k1, _, rfl, iteT ?_⟩
    refine ⟨_, rfl, _, _, _, _, _, rfl, .ty _, ty _ _ _ (s1 _ _ ha), kit_ty k2, _, rfl, _, _, _, _, _, rfl, .ty _, ty _ _ _ (s1 _ _ hb), kit_ty k2, rfl, _, rfl, ?_⟩
    rw [ne_bl]
    refine iteF ⟨_, rfl, _, _, _, _, _, rfl, .ty _, ty _ _ _ (s1 _ _ ha), kit_ty k3, _, rfl, _, _, _, _, _, rfl, .ty _, ty _ _ _ (s1 _ _ hb), kit_ty k3, rfl, _, rfl, ?_⟩
    rw [ne_bl]
    refine iteF ⟨_, rfl, a, _, rfl, seq (s1 _ _ ha), _, rfl, b, _, rfl, seq (s1 _ _ hb), rfl, _, rfl, ?_⟩
    rw [hlen, decide_eq_true rfl]
    refine iteT ⟨_, rfl, b, _, rfl, seq (s1 _ _ hb), _, rfl, by omega, by omega, fun D hD => ?_⟩
    have s2 := s1.set (s1.free hD)
    refine lc_range (lo := 0) (n := ((ys.length : Nat) : Int).toNat) (fun i H' => Same H H' ∧ H' D = some (.lst (List.replicate i (V.bl true)))) ⟨s2 _, upd_same⟩ ?_ ?_
    · rintro i H' hi ⟨s3, hD'⟩
      have hi : i < ys.length := by omega
      obtain ⟨v, hv, he⟩ := paired_at hP (List.getElem?_eq_getElem hi)
      refine ⟨rfl, ?_⟩
      refine ⟨_, rfl, _, rfl, ixs (s3 _ _ ha) hv ⟨_, rfl, _, rfl, ixs (s3 _ _ hb) (List.getElem?_eq_getElem hi) ?_⟩⟩
      refine ⟨_, _, rfl, he.mono s3, fun H2 s4 => ?_⟩
      refine ⟨_, s4 _ _ hD', by rw [List.length_replicate]; exact sl_lt (by omega), (s3.trans s4).set (s1.free hD) _, ?_⟩
      rw [upd_same, List.replicate_succ']
    · rintro H' ⟨s3, hD'⟩
      refine ⟨D, List.replicate ys.length true, rfl, SqL.of (by rw [hD', List.map_replicate]; rfl), ?_⟩
      have e : (List.replicate ys.length true).all id = true := by
        rw [List.all_replicate]
        cases ys.length <;> rfl
      rw [e]
      exact q _ s3
theorem ok_same_at (T : Txt K mg A) : ∀ n : Nat, FnOk P w K mg base CX0 (n + 1) A.f_same A.fd_same ["_law_found", "_law_due"] (spSame K n)
  | 0 => ok_same_step T 0 fun m e => nomatch e
  | n + 1 => ok_same_step T (n + 1) fun m e => by
    have e2 : m = n := by omega
    subst e2
    exact ok_same_at T m
/-- data of at most nine levels -/
theorem ok_same (T : Txt K mg A) : FnOk P w K mg base CX0 10 A.f_same A.fd_same ["_law_found", "_law_due"] (spSame K 9) := ok_same_at T 9
end

/-! ## Fractions in the heap -/
open RM in
/-- the tuple of a fraction -/
def FR (x : Rat) : List V := [.int x.num, .int ((x.den : Nat) : Int)]
/-- a new tuple, all else as it was -/
def NewT (H : Hp) (Q : VK) (xs : List V) : Prop := ∀ (p : Addr) (H' : Hp), Same H H' → H p = none → H' p = some (.tup xs) → Q (.ref p) H'
theorem NewT.lay {H H1 : Hp} {Q : VK} {xs : List V} {p : Addr} (q : NewT H Q xs) (e : Same H H1) (h : H1 p = none) : Q (.ref p) (upd H1 p (.tup xs)) := q p _ (e.set (e.free h) _) (e.free h) upd_same
theorem fr_of {x : Rat} {n d : Int} (h1 : n = x.num) (h2 : d = ((x.den : Nat) : Int)) : ([.int n, .int d] : List V) = FR x := by
  rw [h1, h2]; rfl
theorem w_mul {i j : Int} {a b : Nat} (ha : i.natAbs < 2 ^ a) (hb : j.natAbs < 2 ^ b) (h : a + b + 2 ≤ 1000000) : CMulW i j :=
  wide_mul (a := a + 1) (b := b + 1) (Nat.lt_of_lt_of_le ha (RM.pow_le (by omega))) (Nat.lt_of_lt_of_le hb (RM.pow_le (by omega))) (by omega) (by omega) (by omega)
theorem w_div {i j : Int} {b : Nat} (h : 0 < j) (hb : j.natAbs < 2 ^ b) (h9 : b ≤ 8999) : CDivW i j :=
  wide_div h (Nat.lt_of_lt_of_le hb (RM.pow_le (show b ≤ b + 1 by omega))) (by omega) (by omega)
def rIxTV (H : Hp) (p : Addr) (xs : List V) (i : Nat) (v : V) : Prop := H p = some (.tup xs) ∧ xs[i]? = some v
def spGcd : Sp := fun vs H Q _ => ∃ (a b : Int), vs = [.int a, .int b] ∧ 0 ≤ b ∧ Q (.int ((Int.gcd a b : Nat) : Int)) H
def spLow : Sp := fun vs H Q _ => ∃ (a b : Int), vs = [.int a, .int b] ∧ 0 < b ∧ b.natAbs < 2 ^ 8000 ∧ NewT H Q (FR (Rat.divInt a b))
section
variable {P : Program} {w : World} {K : PySem.W.Frag} {mg : Str → Option Value} {base : Heap} {A : Ad}
theorem abs_is (i : Int) : (if i < 0 then -i else i) = ((i.natAbs : Nat) : Int) := by
  split <;> omega
theorem gcd_zero' (i : Int) : ((i.natAbs : Nat) : Int) = ((Int.gcd i 0 : Nat) : Int) := by rw [Int.gcd_zero]
theorem ok_gcd (T : Txt K mg A) : FnOk P w K mg base CX0 1 A.f_gcd A.fd_gcd ["_law_a", "_law_b"] spGcd := by
  refine T.d_gcd.F.ok sc_gcd (fun vs H Q E h => ?_) (fun cdv ar outer s H vs Q E hr h => ?_)
  · obtain ⟨a, b, rfl, _⟩ := h
    rfl
  obtain ⟨a, b, rfl, hb, q⟩ := h
  refine ⟨_, (pss_cons (ps_while PassesOwn.never (pt_cmpR op_ne (pv 1) pe_int (nomark _)) (pss_one (ps_par (i := 0) (j := 1) (by rfl) sc_gcd.nd rfl rfl (by decide) rfl rfl (pa_cons (pv 1) (pa_cons (pe_op op_mod (pv 0) (pv 1)) pa_nil)) (by rfl))))
    (pss_one (ps_ret (pe_callB call_abs (by rfl) T.abs (by decide +kernel) (pa_cons (pv 0) pa_nil))))), ?_⟩
  refine while_by (fun σ H' => H' = H ∧ ∃ x y : Int, σ = [some (.int x), some (.int y)] ∧ 0 ≤ y ∧ Int.gcd x y = Int.gcd a b) (fun σ _ => match σ with | [_, some (.int y)] => y.toNat | _ => 0) ⟨rfl, a, b, rfl, hb, rfl⟩ ?_ (fun σ H Q Q' m ⟨v, e, h1, k, e2, q⟩ => ⟨v, e, h1, k, e2, m _ _ q⟩)
  rintro σ _ ⟨rfl, x, y, rfl, hy, hg⟩
  refine ⟨_, rfl, rfl, _, rfl, ?_⟩
  by_cases h0 : y = 0
  · subst h0
    rw [decide_eq_true rfl]
    refine iteF ⟨_, rfl, _, rfl, ?_⟩
    rw [abs_is, gcd_zero', hg]
    exact q
  · have d0 : decide (V.int y = V.int 0) = false := decide_eq_false fun z => h0 (by injection z)
    rw [d0]
    refine iteT ⟨_, rfl, _, rfl, _, rfl, _, _, rfl, rfl, (by show 0 < y; omega), _, _, rfl, ?_⟩
    have hm := Int.emod_nonneg x h0
    have hl := Int.emod_lt_of_pos x (show 0 < y by omega)
    refine ⟨⟨rfl, y, x % y, rfl, hm, by rw [RM.gcd_step]; exact hg⟩, ?_⟩
    show (x % y).toNat < y.toNat
    omega
theorem ok_low (T : Txt K mg A) : FnOk P w K mg base CX0 2 A.f_low A.fd_low ["_law_a", "_law_b"] spLow := by
  refine T.d_low.F.ok sc_low (fun vs H Q E h => ?_) (fun cdv ar outer s H vs Q E hr h => ?_)
  · obtain ⟨a, b, rfl, _⟩ := h
    rfl
  obtain ⟨a, b, rfl, hb, hz, q⟩ := h
  have g0 : 0 < ((Int.gcd a b : Nat) : Int) := RM.gcd_posi (by omega)
  have g1 : ((Int.gcd a b : Nat) : Int).natAbs < 2 ^ 8000 := by
    refine Nat.lt_of_le_of_lt ?_ hz
    rw [RM.nat_abs]
    exact Nat.le_of_dvd (by omega) (Int.gcd_dvd_natAbs_right ..)
  refine ⟨_, (pss_cons (ps_set (i := 2) sc_low.nd rfl (Or.inl rfl) (pe_call (ok_gcd T) (hr.mono (by decide)) rfl T.d_gcd.m T.d_gcd.F.kp T.d_gcd.b .nil pass0 (pa_cons (pv 0) (pa_cons (pv 1) pa_nil))))
    (pss_one (ps_ret (pe_tup (pa_cons (pe_op op_fdivW (pv 0) (pv 2)) (pa_cons (pe_op op_fdivW (pv 1) (pv 2)) pa_nil)))))), ?_⟩
  refine ⟨_, rfl, _, rfl, a, b, rfl, by omega, ?_⟩
  refine ⟨_, rfl, _, rfl, _, _, rfl, rfl, w_div g0 g1 (by decide), _, rfl, _, rfl, _, _, rfl, rfl, w_div g0 g1 (by decide), slr rfl, fun p hp => ?_⟩
  show Q (.ref p) (upd H p (.tup [.int (a / ((Int.gcd a b : Nat) : Int)), .int (b / ((Int.gcd a b : Nat) : Int))]))
  rw [← RM.num_pos hb, ← RM.den_pos hb]
  exact q.lay (Same.refl H) hp
end

-- CUT
/-! ## Errors of the program's own: made by the __init__ of the class above, raised, caught by one of two classes, their fields read -/
namespace EX
open PySem PySem.Spec PyProof.Rows L2
section
variable {X : Cx} {e : Expr} {es : List Expr} {ta : TA} {p p1 p2 pos : Pos}
/-- C.m(e, ..), m a def of the class C -/
theorem pe_indef {CX : CXT} {x m : Str} {C g : Addr} {mc : Value} {k : Nat} {fd : FuncData} {ps : List Str} {sp : Sp} {E : XK} {ds : List Value} {dvs : List V} {pl : Sem Bool} (r : ClX.CRead X.K C mc) (c : ClX.CVal X.K C mc m (.ref g) (.ref g))
    (hk : PySem.W.keepIn X.K (.ref g) = true) (F : FnOk X.prog X.w X.K X.mg X.base CX k g fd ps sp) (hr : Room k X.A) (hb : Binds X.K fd ps ds) (hd : Vals dvs ds) (hx : Passes CX X E) (hg : Gl X x) (hm : X.mg x = some (.ref C)) (ha : PA X (e :: es) ta)
    (hdb : (x == ("__debug__" : Str)) = false := by decide)
    (hc : eval (.Call (.Attribute (.Name x p1) m p2) (e :: es) [] pos) X.env = (do
      let ov ← eval (.Name x p1) X.env
      standAt p2.atName
      let (f, first) ← holding [ov] (getMethod ov m pl)
      callWith pos f first (backTo pos (starEach (e :: es) X.env)) (backToKw pos (keywordEach [] X.env))) := by rfl)
    (he : starEach (e :: es) X.env = (false, eval e X.env) :: starEach es X.env := by rfl) (hpl : (backTo pos (starEach es X.env)).any (·.1) = false := by rfl) :
    PE X (.Call (.Attribute (.Name x p1) m p2) (e :: es) [] pos) (tCall sp dvs E ta) := by
  refine ⟨fun pins s σ H Q I h => ?_⟩
  refine PySem.W.methodCall_KW (ld_glob I hg hm ?_ hdb) hc
  refine PySem.W.method_cls I.kIn r.ga (ClX.getcval_ok I r c fun s1 I1 => ?_)
  refine PySem.W.callWith_K (h₀ := X.base) I1.ok.mod.kin hk (thn (ha.run pos pins s1 σ H _ I1 h) fun us s2 ⟨vs, H2, I2, rv, q⟩ => ⟨I2.kIn, ?_⟩) he hpl
  exact run_fn F hr hb hd hx I2 rv q
/-- C(), C's __init__ keeping sp -/
def tMk0 (C : Addr) (sp : Sp) : L2.St → Hp → XK → Prop := fun _ H Q => ∀ a, H a = none → sp [.ref a] (upd H a (exo a C none))
  (fun v H2 => v = .non ∧ ∃ (d : Addr) (fs : List (Str × V)), H2 a = some (exo a C (some d)) ∧ H2 d = some (exd d fs) ∧ H d = none ∧ Q (.ref C) (some d) (upd (del H2 a) d (.xd fs))) (fun _ _ _ => False)
theorem pmk_own0 {CX : CXT} {x : Str} {C fI : Addr} {k : Nat} {fd : FuncData} {ps : List Str} {sp : Sp} (T : OexC X.K C) (iC : PySem.W.findIn X.K (.ref C) "__init__" = some (some (.ref fI))) (tI : PySem.W.typeIn X.K (.ref fI) = some (.type "function"))
    (F1 : FnOk X.prog X.w X.K X.mg X.base CX k fI fd ps sp) (hr : Room (k + 1) X.A) (hb : Binds X.K fd ps []) (hx : Passes CX X (fun _ _ _ => False)) (hg : Gl X x) (hm : X.mg x = some (.ref C)) (hdb : (x == ("__debug__" : Str)) = false := by decide) :
    PMk X (.Call (.Name x p) [] [] pos) (tMk0 C sp) := by
  intro pins s σ H Q I h
  obtain ⟨nm, q, N, bs, bm, sn, sub, ab, col, dd, k0, k1, k2, k3, k5, hC, hbm⟩ := T.cls
  refine wpAny_Call_Name_kw (ld_glob I hg hm ?_ hdb)
  refine PySem.W.callWith_K0 I.kIn T.kC ?_
  obtain ⟨hp, g, dr, tk, os⟩ := s
  have up : hp.objs.size ≤ hp.objs.size + 1 := Nat.le_succ _
  have free : H (hp.objs.size + 1) = none := I.hok.fresh up
  have hq := h (hp.objs.size + 1) free
  have kk : ∀ b o, hp.get? b = some o → ((hp.push (PySem.W.kdv_tup [])).push (PySem.HandSPX.excO C hp.objs.size)).get? b = some o := fun b o z => Heap.get?_push_of_some _ (Heap.get?_push_of_some _ z)
  have here : ((hp.push (PySem.W.kdv_tup [])).push (PySem.HandSPX.excO C hp.objs.size)).get? (hp.objs.size + 1) = some (PySem.HandSPX.excO C hp.objs.size) := by heap_get
  have J : Inv X pins σ (upd H (hp.objs.size + 1) (exo (hp.objs.size + 1) C none)) ⟨(hp.push (PySem.W.kdv_tup [])).push (PySem.HandSPX.excO C hp.objs.size), g, dr, tk, os⟩ := I.laid (t' := tk) kk up (exo_ok here)
  have one : (1 : Nat) = ps.length := F1.len _ _ _ _ hq
  refine wpAny_call (PySem.HandSPX.call_own F.excBase_ValueError (fun Y => PySem.HandSPX.refsVE_contains Y bm hbm) (I.kIn _ _ hC) (PySem.W.looks_findIn I.kIn iC) (fun self => PySem.W.bind_fn I.kIn self tI) (Nat.zero_le _)
    (codeAny_mono (F1.run _ X.stack _ _ ⟨[Value.ref (hp.objs.size + 1)], []⟩ [Value.ref (hp.objs.size + 1)] [V.ref (hp.objs.size + 1)] _ (fun _ _ _ => False) (hr.make C [] []) (J.env0.make C [] []) ?_ (.cons rfl .nil) hq) fun r s' hq' => ?_))
  · exact hb _ [Value.ref (hp.objs.size + 1)] J.kIn (by simpa using one)
  cases r with
  | error er => exact hx pins σ _ _ er s' J hq'
  | ok fl =>
    cases fl with
    | ret u =>
      obtain ⟨v, H2, os2, bare2, un2, hok2, rv, ev, d, fs, ea, ed, hd1, q2⟩ := hq'
      subst ev
      obtain ⟨h2, g2, d2, t2, os'⟩ := s'
      exact ⟨rv, mk_end (raises_own T.exC T.tyC) I up kk un2 hok2 os2 bare2 ea ed hd1 q2⟩
    | next => exact False.elim hq'
    | brk => exact False.elim hq'
    | cont => exact False.elim hq'
/-- e.f, e the exception that the context bears -/
theorem pe_field {a C : Addr} {oe : Obj} {cls : Value} {d : Option Addr} {te : TE} {n : Str} (T : XfC X.K C) (hno : PySem.W.findIn X.K (.ref C) n = some none) (hz : Zc cls d oe) (hf : ∃ vs, oe.data = .fields vs) (hp : (a, oe) ∈ X.pn) (he : PE X e te)
    (hb : attributeBase e n X.env (eval e X.env) = eval e X.env := by rfl) : PE X (.Attribute e n pos) (tXf a cls d C n te) := by
  refine ⟨fun pins s σ H Q I h => attr_of hb (thn (he.run pins s σ H _ I h) fun u s1 hh => ?_)⟩
  obtain ⟨x, H1, I1, rx, ex, ec, dd, fs, v, ed, ea, l, q⟩ := hh
  subst ex ec ed
  cases rx
  have at_ := (I1.pin (a, oe) (List.mem_append_left _ hp)).1
  obtain ⟨vs, hd⟩ := hf
  have hx : ObjOk X.prog X.w H1 s1.heap dd (.xd fs) := I1.hok dd _ ea
  obtain ⟨mA, hns, hr⟩ := hx
  obtain ⟨od, ho, hl⟩ := lookIn_ns hns
  obtain ⟨u, hu, ru⟩ := RelO.some_of (v := v) (o := mA n) (by rw [← l]; exact hr n)
  have J : PySem.W.InstAt s1.heap a oe C (some od) := by
    refine ⟨at_, hz.1, ?_, by rw [hz.2]; exact ho⟩
    unfold PySem.W.notCls
    rw [hd]
  exact HandSPX.exc_get I1.kIn J T.ga T.gg T.exC (PySem.W.findObj_own T.hdC hno rfl (by rw [hl, hu])) (handed_of ru) ⟨v, H1, I1.tok _, ru, q⟩
end
end EX

theorem ix0 {x : Rat} : atI (FR x) 0 = some (.int x.num) := at_of (j := 0) rfl rfl
theorem ix1 {x : Rat} : atI (FR x) 1 = some (.int ((x.den : Nat) : Int)) := at_of (j := 1) rfl rfl
/-- a fraction stands at v -/
def IsR (H : Hp) (v : V) (x : Rat) : Prop := ∃ p, v = .ref p ∧ H p = some (.tup (FR x))
theorem IsR.mono {H H' : Hp} {v : V} {x : Rat} (h : IsR H v x) (e : Same H H') : IsR H' v x := by
  obtain ⟨p, h1, h2⟩ := h
  exact ⟨p, h1, e _ _ h2⟩
def RL (H : Hp) (vs : List V) (qs : List Rat) : Prop := Paired (IsR H) vs qs
theorem RL.mono {H H' : Hp} {vs : List V} {qs : List Rat} (h : RL H vs qs) (e : Same H H') : RL H' vs qs := paired_imp (fun _ _ z => z.mono e) h
theorem paired_at1 {α β : Type} {R : α → β → Prop} : ∀ {xs : List α} {ys : List β} {i : Nat} {x : α}, Paired R xs ys → xs[i]? = some x → ∃ y, ys[i]? = some y ∧ R x y
  | _, _, _, _, .nil, e => by cases e
  | _, y :: _, 0, _, .cons r _, e => by cases e; exact ⟨y, rfl, r⟩
  | _, _, i + 1, x, .cons _ t, e => by
    obtain ⟨y, h1, h2⟩ := paired_at1 (i := i) (x := x) t (by simpa using e)
    exact ⟨y, by simpa using h1, h2⟩
def AllBd (k : Nat) (qs : List Rat) : Prop := ∀ x ∈ qs, RM.Bd k x
theorem AllBd.get {k : Nat} {qs : List Rat} (h : AllBd k qs) {i : Nat} {x : Rat} (e : qs[i]? = some x) : RM.Bd k x := h _ (List.mem_of_getElem? e)
theorem AllBd.take {k : Nat} {qs : List Rat} (h : AllBd k qs) (i : Nat) : AllBd k (qs.take i) := fun x hx => h x (List.mem_of_mem_take hx)

/-! ## Draws of fractions -/
/-- tuples stay -/
def KeepT (H H' : Hp) : Prop := ∀ p xs, H p = some (.tup xs) → H' p = some (.tup xs)
theorem _root_.L2.Same.kt {H H' : Hp} (e : Same H H') : KeepT H H' := fun p xs h => e p _ h
theorem Apart.kt {b : Addr} {H H' : Hp} (e : Apart b H H') {l : Addr} (B : Bag H b l) : KeepT H H' := fun p xs h => e p _ (B.nt h) h
theorem KeepT.trans {H H1 H2 : Hp} (x : KeepT H H1) (y : KeepT H1 H2) : KeepT H H2 := fun p xs h => y p xs (x p xs h)
theorem KeepT.refl (H : Hp) : KeepT H H := fun _ _ h => h
theorem kt_list {H : Hp} {D : Addr} {xs : List V} {o : HO} (h : H D = some (.lst xs)) : KeepT H (upd H D o) := fun p ys e => by
  rw [upd_ne (ne_of e h (fun z => nomatch z))]
  exact e
theorem IsR.keep {H H' : Hp} {v : V} {x : Rat} (h : IsR H v x) (e : KeepT H H') : IsR H' v x := by
  obtain ⟨p, h1, h2⟩ := h
  exact ⟨p, h1, e _ _ h2⟩
theorem RL.keep {H H' : Hp} {vs : List V} {qs : List Rat} (h : RL H vs qs) (e : KeepT H H') : RL H' vs qs := paired_imp (fun _ _ z => z.keep e) h
theorem paired_snoc {α β : Type} {R : α → β → Prop} {x : α} {y : β} (r : R x y) : ∀ {xs : List α} {ys : List β}, Paired R xs ys → Paired R (xs ++ [x]) (ys ++ [y])
  | _, _, .nil => .cons r .nil
  | _, _, .cons h t => .cons h (paired_snoc r t)
theorem AllBd.snoc {k : Nat} {qs : List Rat} {x : Rat} (h : AllBd k qs) (b : RM.Bd k x) : AllBd k (qs ++ [x]) := fun y hy => by
  rcases List.mem_append.mp hy with z | z
  · exact h y z
  · rw [List.mem_singleton.mp z]
    exact b
theorem AllBd.nil {k : Nat} : AllBd k [] := fun _ h => absurd h (by simp)
theorem AllBd.cons {k : Nat} {qs : List Rat} {x : Rat} (b : RM.Bd k x) (h : AllBd k qs) : AllBd k (x :: qs) := fun y hy => by
  rcases List.mem_cons.mp hy with z | z
  · rw [z]
    exact b
  · exact h y z
theorem eqI {K : PySem.W.Frag} {H : Hp} {n : Nat} (i : Int) : EqD K H n (.int i) (.int i) := EqD.flat (x := .int i) True.intro
theorem eqI2 {K : PySem.W.Frag} {H : Hp} {n : Nat} {i j : Int} (h : i = j) : EqD K H n (.int i) (.int j) := by rw [h]; exact eqI j
theorem eqR {K : PySem.W.Frag} {H : Hp} {v u : V} {x : Rat} {n : Nat} (h : IsR H v x) (g : IsR H u x) : EqD K H (n + 1) v u := by
  obtain ⟨p, rfl, hp⟩ := h
  obtain ⟨r, rfl, hr⟩ := g
  exact .inr (.inr ⟨p, r, _, _, rfl, rfl, hp, hr, .cons (eqI _) (.cons (eqI _) .nil), by show 2 ≤ 100000; decide⟩)
theorem eqL {K : PySem.W.Frag} {H : Hp} {a b : Addr} {xs ys : List V} {n : Nat} (h : H a = some (.lst xs)) (g : H b = some (.lst ys)) (hp : Paired (EqD K H n) xs ys) (hl : xs.length ≤ 100000) : EqD K H (n + 1) (.ref a) (.ref b) :=
  .inr (.inl ⟨a, b, xs, ys, rfl, rfl, h, g, hp, hl⟩)
theorem eqRL {K : PySem.W.Frag} {H : Hp} {n : Nat} : ∀ {vs us : List V} {qs : List Rat}, RL H vs qs → RL H us qs → Paired (EqD K H (n + 1)) vs us
  | _, _, _, .nil, .nil => .nil
  | _, _, _, .cons a r, .cons b t => .cons (eqR a b) (eqRL r t)
/-! ### == of lists of fractions -/
def frD (x : Rat) : PyData := .tuple [.int x.num, .int ((x.den : Nat) : Int)]
theorem dp_fr {K : PySem.W.Frag} {H : Hp} {v : V} {x : Rat} (h : IsR H v x) : Dp K H v (frD x) := by
  obtain ⟨p, rfl, hp⟩ := h
  exact .tup (SqT.of hp) (.cons (.int _) (.cons (.int _) .nil))
theorem dp_rl {K : PySem.W.Frag} {H : Hp} : ∀ {vs : List V} {qs : List Rat}, RL H vs qs → DpAll K H vs (qs.map frD)
  | _, _, .nil => .nil
  | _, _, .cons r t => .cons (dp_fr r) (dp_rl t)
theorem can_fr : ∀ qs : List Rat, PyData.canLayAll0 (qs.map frD) = true
  | [] => rfl
  | x :: r => by
    show (PyData.canLay0 (frD x) && PyData.canLayAll0 (r.map frD)) = true
    rw [can_fr r]
    rfl
theorem dep_fr : ∀ qs : List Rat, PyData.depthAll (qs.map frD) ≤ 1
  | [] => Nat.zero_le _
  | x :: r => by
    show max (PyData.depth (frD x)) (PyData.depthAll (r.map frD)) ≤ 1
    exact Nat.max_le.mpr ⟨Nat.le_refl 1, dep_fr r⟩
theorem shp_fr (qs : List Rat) : SeqAt.shaped (.list (qs.map frD)) = true := by
  unfold SeqAt.shaped
  have h1 : PyData.canLay0 (.list (qs.map frD)) = true := can_fr qs
  have h2 : PyData.depth (.list (qs.map frD)) ≤ 64 := by
    show PyData.depthAll (qs.map frD) + 1 ≤ 64
    have := dep_fr qs
    omega
  rw [h1, decide_eq_true h2]
  rfl
theorem eqv_fr (qs : List Rat) : PyData.eqv (.list (qs.map frD)) (.list (qs.map frD)) = true := SeqAt.eqv_refl _ (can_fr qs)
theorem sz {n : Nat} (h : Nat.ble n 8000 = true) : n ≤ 8000 := Nat.le_of_ble_eq_true h
theorem sum2 (x y : Rat) : RM.sumR [x, y] = x + y := by
  show (0 : Rat) + x + y = x + y
  rw [Rat.zero_add]
theorem sum1 (x : Rat) : RM.sumR [x] = x := by
  show (0 : Rat) + x = x
  rw [Rat.zero_add]
theorem mul2 (x y : Rat) : RM.mulR [x, y] = x * y := by
  show (1 : Rat) * x * y = x * y
  rw [Rat.one_mul]
theorem mul1 (x : Rat) : RM.mulR [x] = x := by
  show (1 : Rat) * x = x
  rw [Rat.one_mul]
theorem mul3 (x y z : Rat) : RM.mulR [x, y, z] = x * y * z := by
  show (1 : Rat) * x * y * z = x * y * z
  rw [Rat.one_mul]

def spRatio : Sp := fun vs H Q _ => ∃ (b l : Addr) (m : Int) (k : Nat), vs = [.ref b, .int m] ∧ Bag H b l ∧ 1 ≤ m ∧ m < 2 ^ 60 ∧ (m + 12).natAbs < 2 ^ k ∧ ∀ (p : Addr) (H' : Hp) (x : Rat), Apart b H H' → Bag H' b l → H p = none → H' p = some (.tup (FR x)) → RM.Bd k x → Q (.ref p) H'
section
variable {P : Program} {w : World} {K : PySem.W.Frag} {mg : Str → Option Value} {base : Heap} {A : Ad}
theorem ok_ratio (T : Txt K mg A) : FnOk P w K mg base CX0 3 A.f_ratio A.fd_ratio ["_law_bag_here", "_law_most"] spRatio := by
  refine T.d_ratio.F.ok sc_ratio (fun vs H Q E h => ?_) (fun cdv ar outer s H vs Q E hr h => ?_)
  · obtain ⟨b, l0, m, k, rfl, _⟩ := h
    rfl
  obtain ⟨b, l0, m, k, rfl, B, m1, m2, m3, q⟩ := h
  refine ⟨_, (pss_cons (ps_set (i := 2) sc_ratio.nd rfl (Or.inl rfl) (pe_call (ok_of T) (hr.mono (by decide)) rfl T.d_of.m T.d_of.F.kp T.d_of.b .nil pass0 (pa_cons (pv 0) (pa_cons (pe_lst (pa_cons pe_int (pa_cons pe_int (pa_cons (pv 1) pa_nil)))) pa_nil))))
    (pss_one (ps_ret (pe_call (ok_low T) (hr.mono (by decide)) rfl T.d_low.m T.d_low.F.kp T.d_low.b .nil pass0 (pa_cons (pe_op op_sub (pe_call (ok_pull T) (hr.mono (by decide)) rfl T.d_pull.m T.d_pull.F.kp T.d_pull.b .nil pass0 (pa_cons (pv 0) (pa_cons (pe_op op_add (pe_op op_mul pe_int (pv 2)) pe_int) pa_nil))) (pv 2)) (pa_cons (pe_op op_add pe_int (pe_call (ok_pull T) (hr.mono (by decide)) rfl T.d_pull.m T.d_pull.F.kp T.d_pull.b .nil pass0 (pa_cons (pv 0) (pa_cons (pv 2) pa_nil)))) pa_nil)))))), ?_⟩
  refine ⟨_, rfl, _, rfl, slr rfl, fun l hl => ?_⟩
  have B1 := B.new hl (.lst [V.int 3, V.int 10, V.int m])
  refine ⟨b, l0, l, _, rfl, B1, SqL.of upd_same, B.ne hl, by show 0 < 3; decide, by show 3 ≤ 1000; decide, fun i v H1 hi ap1 B2 => ?_⟩
  obtain ⟨t, rfl, t1, t2⟩ : ∃ t : Int, v = .int t ∧ 1 ≤ t ∧ t ≤ m + 10 := by
    match i, hi with
    | 0, hi => cases hi; exact ⟨3, rfl, by omega, by omega⟩
    | 1, hi => cases hi; exact ⟨10, rfl, by omega, by omega⟩
    | 2, hi => cases hi; exact ⟨m, rfl, by omega, by omega⟩
  have pw : (2 : Nat) ^ 62 ≤ 2 ^ 200 := RM.pow_le (by decide)
  have pw8 : (2 : Nat) ^ 62 ≤ 2 ^ 8000 := RM.pow_le (by decide)
  refine ⟨_, rfl, _, rfl, _, _, rfl, rfl, .inl ⟨by decide, by decide⟩, _, _, rfl, rfl, b, l0, _, rfl, B2, by show 0 < 2 * t + 1; omega, ?_, fun r H2 r0 r1 ap2 B3 => ?_⟩
  · refine Nat.lt_of_lt_of_le (show (2 * t + 1).natAbs < 2 ^ 62 from ?_) pw
    omega
  have r2 : r < 2 * t + 1 := r1
  refine ⟨_, rfl, _, _, rfl, rfl, _, rfl, _, rfl, b, l0, t, rfl, B3, by omega, Nat.lt_of_lt_of_le (show t.natAbs < 2 ^ 62 by omega) pw, fun d H3 d0 d1 ap3 B4 => ?_⟩
  refine ⟨_, _, rfl, rfl, r - t, 1 + d, rfl, by omega, Nat.lt_of_lt_of_le (show (1 + d).natAbs < 2 ^ 62 by omega) pw8, fun p H4 e hp hp4 => ?_⟩
  have all : Apart b H H4 := ((((Same.new hl _).apart.trans ap1).trans ap2).trans ap3).trans e.apart
  have hpn : H p = none := by
    cases hh : H p with
    | none => rfl
    | some o =>
      by_cases hpb : p = b
      · subst hpb
        obtain ⟨_, z⟩ := B4.there
        rw [z] at hp
        cases hp
      · have z := (((Same.new hl (.lst [V.int 3, V.int 10, V.int m])).apart.trans ap1).trans ap2).trans ap3 p o hpb hh
        rw [z] at hp
        cases hp
  exact q p H4 _ all (B4.same e) hpn hp4 (RM.Bd.div (by omega) (by omega) (by omega))
end

/-- the comprehension's list so far -/
def Ratios (k : Nat) (H1 : Hp) (b l D : Addr) (i : Nat) (H' : Hp) : Prop := Bag H' b l ∧ Apart b H1 H' ∧ ∃ (us : List V) (qs : List Rat), H' D = some (.lst us) ∧ us.length = i ∧ RL H' us qs ∧ AllBd k qs
theorem ratios_start {k : Nat} {H1 : Hp} {b l D : Addr} (B : Bag H1 b l) (hD : H1 D = none) : Ratios k H1 b l D 0 (upd H1 D (.lst [])) :=
  ⟨B.new hD _, (Same.new hD _).apart, [], [], upd_same, rfl, .nil, AllBd.nil⟩
theorem ratios_step {k i : Nat} {H1 H' H2 : Hp} {b l D p : Addr} {x : Rat} {us : List V} (B1 : Bag H1 b l) (hD0 : H1 D = none) (h : Ratios k H1 b l D i H') (hus : H' D = some (.lst us)) (ap : Apart b H' H2) (B2 : Bag H2 b l) (hp : H2 p = some (.tup (FR x))) (bx : RM.Bd k x) :
    Ratios k H1 b l D (i + 1) (upd H2 D (.lst (us ++ [.ref p]))) := by
  obtain ⟨B, e, us', qs, hD, hl, hR, hB⟩ := h
  have := hus.symm.trans hD
  cases this
  have hDb : D ≠ b := B1.ne hD0
  have hD2 : H2 D = some (.lst us) := ap _ _ hDb hD
  have kt : KeepT H2 (upd H2 D (.lst (us ++ [.ref p]))) := kt_list hD2
  refine ⟨B2.upd hDb (B1.ne2 hD0), fun c o nc ec => ?_, us ++ [.ref p], qs ++ [x], upd_same, by rw [List.length_append, hl]; rfl, ?_, hB.snoc bx⟩
  · rw [upd_ne (ne_of_none ec hD0)]
    exact ap _ _ nc (e _ _ nc ec)
  · exact paired_snoc ⟨p, rfl, kt _ _ hp⟩ ((hR.keep (ap.kt B)).keep kt)

/-! ## A frame: the bag, the objects that matter and what they hold, the fractions -/
structure Fr (b l : Addr) (H : Hp) (L : List (Addr × HO)) (R : List (List V × List Rat)) : Prop where
  bag : Bag H b l
  at_ : ∀ (i : Nat) (x : Addr × HO), L[i]? = some x → H x.1 = some x.2
  nd : ∀ (i j : Nat) (x y : Addr × HO), L[i]? = some x → L[j]? = some y → x.1 = y.1 → i = j
  nb : ∀ (i : Nat) (x : Addr × HO), L[i]? = some x → x.1 ≠ b ∧ x.1 ≠ l
  rl : ∀ (i : Nat) (r : List V × List Rat), R[i]? = some r → RL H r.1 r.2
theorem set_at {α : Type} {L : List α} {i j : Nat} {a x : α} (h : (L.set i a)[j]? = some x) : (i = j ∧ x = a) ∨ (i ≠ j ∧ L[j]? = some x) := by
  rw [List.getElem?_set] at h
  by_cases e : i = j
  · rw [if_pos e] at h
    by_cases c : i < L.length
    · rw [if_pos c] at h
      exact .inl ⟨e, (Option.some.inj h).symm⟩
    · rw [if_neg c] at h
      cases h
  · rw [if_neg e] at h
    exact .inr ⟨e, h⟩
namespace Fr
variable {b l : Addr} {H H' : Hp} {L L' : List (Addr × HO)} {R : List (List V × List Rat)}
theorem nil (B : Bag H b l) : Fr b l H [] [] := ⟨B, (fun _ _ h => nomatch h), (fun _ _ _ _ h => nomatch h), (fun _ _ h => nomatch h), (fun _ _ h => nomatch h)⟩
theorem fresh (F : Fr b l H L R) {p : Addr} (n : H p = none) : ∀ (i : Nat) (x : Addr × HO), L[i]? = some x → x.1 ≠ p := fun i x h => ne_of_none (F.at_ i x h) n
theorem cons (F : Fr b l H L R) {p : Addr} {o : HO} (ne : ∀ (i : Nat) (x : Addr × HO), L[i]? = some x → x.1 ≠ p) (h1 : p ≠ b) (h2 : p ≠ l) (g : H p = some o) : Fr b l H ((p, o) :: L) R := {
  bag := F.bag
  at_ := fun i x h => match i, h with
    | 0, h => by cases h; exact g
    | i + 1, h => F.at_ i x h
  nd := fun i j x y hx hy e => match i, j, hx, hy with
    | 0, 0, _, _ => rfl
    | 0, j + 1, hx, hy => by cases hx; exact absurd e.symm (ne j y hy)
    | i + 1, 0, hx, hy => by cases hy; exact absurd e (ne i x hx)
    | i + 1, j + 1, hx, hy => congrArg (· + 1) (F.nd i j x y hx hy e)
  nb := fun i x h => match i, h with
    | 0, h => by cases h; exact ⟨h1, h2⟩
    | i + 1, h => F.nb i x h
  rl := F.rl }
theorem same (F : Fr b l H L R) (e : Same H H') : Fr b l H' L R := ⟨F.bag.same e, fun i x h => e _ _ (F.at_ i x h), F.nd, F.nb, fun i r h => (F.rl i r h).mono e⟩
theorem new (F : Fr b l H L R) {p : Addr} (n : H p = none) (o : HO) : Fr b l (upd H p o) ((p, o) :: L) R := (F.same (Same.new n o)).cons (F.fresh n) (F.bag.ne n) (F.bag.ne2 n) upd_same
theorem newS (F : Fr b l H L R) {p : Addr} (n : H p = none) {o : HO} (e : Same H H') (g : H' p = some o) : Fr b l H' ((p, o) :: L) R := (F.same e).cons (F.fresh n) (F.bag.ne n) (F.bag.ne2 n) g
theorem drawn (F : Fr b l H L R) (ap : Apart b H H') (B : Bag H' b l) : Fr b l H' L R := ⟨B, fun i x h => ap _ _ (F.nb i x h).1 (F.at_ i x h), F.nd, F.nb, fun i r h => (F.rl i r h).keep (ap.kt F.bag)⟩
/-- one object of the frame is changed, all else stays -/
theorem grow (F : Fr b l H L R) {i : Nat} {p : Addr} {o o' : HO} (hi : L[i]? = some (p, o)) (nt : ∀ xs, o ≠ .tup xs) (k : ∀ c u, c ≠ p → H c = some u → H' c = some u) (g : H' p = some o') : Fr b l H' (L.set i (p, o')) R := {
  bag := by
    obtain ⟨ns, i0, c, s, t, h1, h2, h⟩ := F.bag.ex
    exact ⟨ns, i0, c, s, t, k _ _ (F.nb i _ hi).1.symm h1, k _ _ (F.nb i _ hi).2.symm h2, h⟩
  at_ := fun j x h => by
    rcases set_at h with ⟨_, rfl⟩ | ⟨e, h⟩
    · exact g
    · exact k _ _ (fun z => e (F.nd i j _ x hi h z.symm)) (F.at_ j x h)
  nd := fun j1 j2 x y hx hy e => by
    rcases set_at hx with ⟨e1, rfl⟩ | ⟨e1, hx⟩ <;> rcases set_at hy with ⟨e2, rfl⟩ | ⟨e2, hy⟩
    · exact e1.symm.trans e2
    · exact e1.symm.trans (F.nd _ _ _ _ hi hy e)
    · exact (F.nd _ _ _ _ hx hi e).trans e2
    · exact F.nd _ _ _ _ hx hy e
  nb := fun j x h => by
    rcases set_at h with ⟨_, rfl⟩ | ⟨_, h⟩
    · have z := F.nb i _ hi
      exact z
    · exact F.nb j x h
  rl := fun j r h => (F.rl j r h).keep fun c xs hc => k _ _ (fun z => by
    subst z
    exact nt xs (Option.some.inj ((F.at_ i _ hi).symm.trans hc))) hc }
theorem put (F : Fr b l H L R) {i : Nat} {p : Addr} {o : HO} (hi : L[i]? = some (p, o)) (nt : ∀ xs, o ≠ .tup xs) (o' : HO) : Fr b l (upd H p o') (L.set i (p, o')) R :=
  F.grow hi nt (fun c u n h => by rw [upd_ne n]; exact h) upd_same
theorem tail {x : Addr × HO} (F : Fr b l H (x :: L) R) : Fr b l H L R := ⟨F.bag, fun i y h => F.at_ (i + 1) y h, fun i j y z hy hz e => by have := F.nd (i + 1) (j + 1) y z hy hz e; omega, fun i y h => F.nb (i + 1) y h, F.rl⟩
theorem addR (F : Fr b l H L R) {vs : List V} {qs : List Rat} (h : RL H vs qs) : Fr b l H L ((vs, qs) :: R) := ⟨F.bag, F.at_, F.nd, F.nb, fun i r e => match i, e with
  | 0, e => by cases e; exact h
  | i + 1, e => F.rl i r e⟩
theorem tailR {x : List V × List Rat} (F : Fr b l H L (x :: R)) : Fr b l H L R := ⟨F.bag, F.at_, F.nd, F.nb, fun i r e => F.rl (i + 1) r e⟩
end Fr
theorem fresh_cons {L : List (Addr × HO)} {p q : Addr} {o : HO} (n : q ≠ p) (h : ∀ (i : Nat) (x : Addr × HO), L[i]? = some x → x.1 ≠ p) : ∀ (i : Nat) (x : Addr × HO), ((q, o) :: L)[i]? = some x → x.1 ≠ p := fun i x e => match i, e with
  | 0, e => by cases e; exact n
  | i + 1, e => h i x e
theorem fresh_set {L : List (Addr × HO)} {p q : Addr} {o o' : HO} {j : Nat} (hj : L[j]? = some (q, o)) (h : ∀ (i : Nat) (x : Addr × HO), L[i]? = some x → x.1 ≠ p) : ∀ (i : Nat) (x : Addr × HO), (L.set j (q, o'))[i]? = some x → x.1 ≠ p := fun i x e => by
  rcases set_at e with ⟨_, rfl⟩ | ⟨_, e⟩
  · have z := h j _ hj
    exact z
  · exact h i x e
/-- one of two rules of the same expression -/
def tAlt (t1 t2 : TE) : TE := fun σ H Q => t1 σ H Q ∨ t2 σ H Q
theorem pe_alt {X : Cx} {e : Expr} {t1 t2 : TE} (h1 : PE X e t1) (h2 : PE X e t2) : PE X e (tAlt t1 t2) := ⟨fun pins s σ H Q I h => h.elim (h1.run pins s σ H Q I) (h2.run pins s σ H Q I)⟩
namespace Fr
variable {b l : Addr} {H H' : Hp} {L L' : List (Addr × HO)} {R : List (List V × List Rat)}
/-- a list outside of the frame is changed -/
theorem aside (F : Fr b l H L R) {p : Addr} {ys : List V} (hp : H p = some (.lst ys)) (ne : ∀ (i : Nat) (x : Addr × HO), L[i]? = some x → x.1 ≠ p) (h1 : p ≠ b) (h2 : p ≠ l) (o : HO) : Fr b l (upd H p o) L R :=
  ⟨F.bag.upd h1 h2, fun i x h => by rw [upd_ne (ne i x h)]; exact F.at_ i x h, F.nd, F.nb, fun i r h => (F.rl i r h).keep (kt_list hp)⟩
/-- an object was made by its class, with two new lists in its fields -/
theorem made (F : Fr b l H L R) {x dx C l1 l2 : Addr} {fs : List (Str × V)} {es as : List V} (nx : H x = none) (ndx : H dx = none) (nex : dx ≠ x) (ne : l2 ≠ l1) (h1 : upd (upd H dx (.own x)) x (.ins C dx []) l1 = none) (h2 : upd (upd H dx (.own x)) x (.ins C dx []) l2 = none)
    (k : ∀ c o, c ≠ x → upd (upd H dx (.own x)) x (.ins C dx []) c = some o → H' c = some o) (gx : H' x = some (.ins C dx fs)) (g1 : H' l1 = some (.lst es)) (g2 : H' l2 = some (.lst as)) : Fr b l H' ((l2, .lst as) :: (l1, .lst es) :: (x, .ins C dx fs) :: L) R := by
  have F0 := (F.same (Same.new ndx (.own x))).cons (p := x) (o := .ins C dx []) (F.fresh nx) (F.bag.ne nx) (F.bag.ne2 nx)
  have F1 : Fr b l (upd (upd H dx (.own x)) x (.ins C dx [])) ((x, .ins C dx []) :: L) R := (F.same (Same.new ndx (.own x))).new (by rw [upd_ne nex.symm]; exact nx) _
  have F2 : Fr b l H' ((x, .ins C dx fs) :: L) R := F1.grow (i := 0) rfl (fun _ z => nomatch z) k gx
  have f1 : ∀ (i : Nat) (y : Addr × HO), ((x, HO.ins C dx fs) :: L)[i]? = some y → y.1 ≠ l1 := fun i y e => fresh_set (L := (x, .ins C dx []) :: L) (j := 0) rfl (F1.fresh h1) i y e
  have f2 : ∀ (i : Nat) (y : Addr × HO), ((x, HO.ins C dx fs) :: L)[i]? = some y → y.1 ≠ l2 := fun i y e => fresh_set (L := (x, .ins C dx []) :: L) (j := 0) rfl (F1.fresh h2) i y e
  exact (F2.cons f1 (F1.bag.ne h1) (F1.bag.ne2 h1) g1).cons (fresh_cons ne.symm f2) (F1.bag.ne h2) (F1.bag.ne2 h2) g2
end Fr

-- CUT2
/-! ## Sheets -/
/-- the fields that Sheet.__init__ leaves -/
def fs2 (l1 l2 : Addr) : List (Str × V) := [("equal", .ref l1), ("above", .ref l2)]
def SeqE (H : Hp) (K : PySem.W.Frag) (tup : Bool) (p : Addr) (es : List V) : Prop := if tup then SqT K H p es else SqL K H p es
def Tups (H : Hp) (es : List V) : Prop := ∀ (i : Nat) (v : V), es[i]? = some v → ∃ (p : Addr) (ys : List V), v = .ref p ∧ H p = some (.tup ys)
theorem RL.tups {H : Hp} {vs : List V} {qs : List Rat} (h : RL H vs qs) : Tups H vs := fun i v e => by
  obtain ⟨x, _, p, h1, h2⟩ := paired_at1 h e
  exact ⟨p, _, h1, h2⟩
/-- what the maker leaves at x -/
def Made3 (H : Hp) (x C dx : Addr) (es as : List V) (more : List (Str × V)) (Q : Hp → Prop) : Prop :=
  ∀ (l1 l2 : Addr) (H' : Hp), l2 ≠ l1 → H l1 = none → H l2 = none → (∀ c o, c ≠ x → H c = some o → H' c = some o) → H' x = some (.ins C dx (fs2 l1 l2 ++ more)) → H' l1 = some (.lst es) → H' l2 = some (.lst as) → Q H'
def spSheetI (K : PySem.W.Frag) : Sp := fun vs H Q _ => ∃ (x C dx e a : Addr) (tup : Bool) (es as : List V), vs = [.ref x, .ref e, .ref a] ∧ H x = some (.ins C dx []) ∧ Cls K C ∧ NoAttr K C "equal" ∧ NoAttr K C "above" ∧
  H e = some (if tup then .tup es else .lst es) ∧ H a = some (if tup then .tup as else .lst as) ∧ Tups H es ∧ Tups H as ∧ es.length ≤ 1000 ∧ as.length ≤ 1000 ∧ Made3 H x C dx es as [] (Q .non)
section
variable {P : Program} {w : World} {K : PySem.W.Frag} {mg : Str → Option Value} {base : Heap} {A : Ad} {O : AdO}
theorem ok_Sheet___init__ (T : Txt K mg A) (OT : OwT K mg O) : FnOk P w K mg base CX0 1 O.f_Sheet___init__ O.fd_Sheet___init__ ["self", "equal", "above"] (spSheetI K) := by
  refine OT.m_Sheet___init__.F.ok sc_Sheet___init__ (fun vs H Q E h => ?_) (fun cdv ar outer s H vs Q E hr h => ?_)
  · obtain ⟨x, C, dx, e, a, tup, es, as, rfl, _⟩ := h
    rfl
  obtain ⟨x, C, dx, e, a, tup, es, as, rfl, hx, hC, n1, n2, he, ha, te, ta, le, la, q⟩ := h
  -- what both ways share
  have fin : ∀ (D1 D2 : Addr) (H' H2 : Hp), H D1 = none → Same H H' → H' D1 = some (.lst es) → (upd H' x (.ins C dx [("equal", .ref D1)])) D2 = none → Same (upd H' x (.ins C dx [("equal", .ref D1)])) H2 → H2 D2 = some (.lst as) → Q .non (upd H2 x (.ins C dx (putF "above" (.ref D2) [("equal", .ref D1)]))) := by
    intro D1 D2 H' H2 hD1 e1 g1 hD2 e2 g2
    have hD1x : D1 ≠ x := (ne_of_none hx hD1).symm
    have hD2x : D2 ≠ x := fun z => by
      rw [z, upd_same] at hD2
      cases hD2
    have hD2n : H' D2 = none := by
      rw [upd_ne hD2x] at hD2
      exact hD2
    have g1' : H2 D1 = some (.lst es) := e2 _ _ (by rw [upd_ne hD1x]; exact g1)
    refine q D1 D2 _ (fun z => ?_) hD1 (e1.free hD2n) (fun c o nc hc => ?_) upd_same (by rw [upd_ne hD1x]; exact g1') (by rw [upd_ne hD2x]; exact g2)
    · rw [z] at hD2n
      rw [hD2n] at g1
      cases g1
    · rw [upd_ne nc]
      exact e2 _ _ (by rw [upd_ne nc]; exact e1 _ _ hc)
  cases tup with
  | false =>
    refine ⟨_, (pss_cons (ps_fld (pv 0) (pe_lc (own := [("number", 3)]) (g := gName 3) (tt := tYes) rfl sc_Sheet___init__.nd (pi_list (pv 1)) (blkOk_by (own := [("number", 3)]) (N := ["self", "equal", "above", "number"]) (sc := defScope s_Sheet___init__) (by decide +kernel)) (fun _ _ _ _ _ => (pg_name (i := 3) sc_Sheet___init__.nd rfl (Or.inl rfl))) (fun _ _ _ _ _ => pts_nil) (fun _ _ _ _ _ => (pe_callTy (r := rTupK K) call_tuple_of (by rfl) T.tuple (by decide +kernel) (pa_cons (pv 3) pa_nil)))) rfl)
    (pss_one (ps_fld (pv 0) (pe_lc (own := [("number", 3)]) (g := gName 3) (tt := tYes) rfl sc_Sheet___init__.nd (pi_list (pv 2)) (blkOk_by (own := [("number", 3)]) (N := ["self", "equal", "above", "number"]) (sc := defScope s_Sheet___init__) (by decide +kernel)) (fun _ _ _ _ _ => (pg_name (i := 3) sc_Sheet___init__.nd rfl (Or.inl rfl))) (fun _ _ _ _ _ => pts_nil) (fun _ _ _ _ _ => (pe_callTy (r := rTupK K) call_tuple_of (by rfl) T.tuple (by decide +kernel) (pa_cons (pv 3) pa_nil)))) rfl))), ?_⟩
    refine ⟨_, rfl, e, rfl, ⟨_, SqL.of he⟩, fun D1 hD1 => ?_⟩
    refine lc_list (K := K) (a := e) (xs := es) (fun i H' => Same H H' ∧ H' D1 = some (.lst (es.take i))) ⟨Same.new hD1 _, upd_same⟩ ?_ ?_ ?_
    · rintro i H' _ ⟨e1, _⟩
      exact SqL.of (e1 _ _ he)
    · rintro i v H' hi ⟨e1, g1⟩
      obtain ⟨p, ys, rfl, hp⟩ := te i v hi
      refine ⟨rfl, _, rfl, p, ys, rfl, .inr ⟨SqT.of (e1 _ _ hp), _, g1, by rw [List.length_take]; exact sl_lt (by omega), e1.set hD1 _, ?_⟩⟩
      rw [upd_same, RM.take_succ hi]
    rintro H' ⟨e1, g1⟩
    rw [List.take_length] at g1
    refine ⟨_, rfl, x, C, dx, _, rfl, e1 _ _ hx, hC, n1, by decide, ?_⟩
    have hxe : e ≠ x := ne_of he hx (fun z => by cases z)
    have hxa : a ≠ x := ne_of ha hx (fun z => by cases z)
    refine ⟨_, rfl, a, rfl, ⟨_, SqL.of (by rw [upd_ne hxa]; exact e1 _ _ ha)⟩, fun D2 hD2 => ?_⟩
    refine lc_list (K := K) (a := a) (xs := as) (fun i H2 => Same (upd H' x (.ins C dx [("equal", .ref D1)])) H2 ∧ H2 D2 = some (.lst (as.take i))) ⟨Same.new hD2 _, upd_same⟩ ?_ ?_ ?_
    · rintro i H2 _ ⟨e2, _⟩
      exact SqL.of (e2 _ _ (by rw [upd_ne hxa]; exact e1 _ _ ha))
    · rintro i v H2 hi ⟨e2, g2⟩
      obtain ⟨p, ys, rfl, hp⟩ := ta i v hi
      refine ⟨rfl, _, rfl, p, ys, rfl, .inr ⟨SqT.of (e2 _ _ (by rw [upd_ne (ne_of hp hx (fun z => by cases z))]; exact e1 _ _ hp)), _, g2, by rw [List.length_take]; exact sl_lt (by omega), e2.set hD2 _, ?_⟩⟩
      rw [upd_same, RM.take_succ hi]
    rintro H2 ⟨e2, g2⟩
    rw [List.take_length] at g2
    refine ⟨_, rfl, x, C, dx, _, rfl, e2 _ _ upd_same, hC, n2, by show 1 < 1000; decide, ?_⟩
    exact fin D1 D2 H' H2 hD1 e1 g1 hD2 e2 g2
  | true =>
    refine ⟨_, (pss_cons (ps_fld (pv 0) (pe_lc (own := [("number", 3)]) (g := gName 3) (tt := tYes) rfl sc_Sheet___init__.nd (pi_tup (pv 1)) (blkOk_by (own := [("number", 3)]) (N := ["self", "equal", "above", "number"]) (sc := defScope s_Sheet___init__) (by decide +kernel)) (fun _ _ _ _ _ => (pg_name (i := 3) sc_Sheet___init__.nd rfl (Or.inl rfl))) (fun _ _ _ _ _ => pts_nil) (fun _ _ _ _ _ => (pe_callTy (r := rTupK K) call_tuple_of (by rfl) T.tuple (by decide +kernel) (pa_cons (pv 3) pa_nil)))) rfl)
    (pss_one (ps_fld (pv 0) (pe_lc (own := [("number", 3)]) (g := gName 3) (tt := tYes) rfl sc_Sheet___init__.nd (pi_tup (pv 2)) (blkOk_by (own := [("number", 3)]) (N := ["self", "equal", "above", "number"]) (sc := defScope s_Sheet___init__) (by decide +kernel)) (fun _ _ _ _ _ => (pg_name (i := 3) sc_Sheet___init__.nd rfl (Or.inl rfl))) (fun _ _ _ _ _ => pts_nil) (fun _ _ _ _ _ => (pe_callTy (r := rTupK K) call_tuple_of (by rfl) T.tuple (by decide +kernel) (pa_cons (pv 3) pa_nil)))) rfl))), ?_⟩
    refine ⟨_, rfl, e, rfl, ⟨_, SqT.of he⟩, fun D1 hD1 => ?_⟩
    refine lc_tup (K := K) (a := e) (xs := es) (fun i H' => Same H H' ∧ H' D1 = some (.lst (es.take i))) ⟨Same.new hD1 _, upd_same⟩ ?_ ?_ ?_
    · rintro i H' _ ⟨e1, _⟩
      exact SqT.of (e1 _ _ he)
    · rintro i v H' hi ⟨e1, g1⟩
      obtain ⟨p, ys, rfl, hp⟩ := te i v hi
      refine ⟨rfl, _, rfl, p, ys, rfl, .inr ⟨SqT.of (e1 _ _ hp), _, g1, by rw [List.length_take]; exact sl_lt (by omega), e1.set hD1 _, ?_⟩⟩
      rw [upd_same, RM.take_succ hi]
    rintro H' ⟨e1, g1⟩
    rw [List.take_length] at g1
    refine ⟨_, rfl, x, C, dx, _, rfl, e1 _ _ hx, hC, n1, by decide, ?_⟩
    have hxa : a ≠ x := ne_of ha hx (fun z => by cases z)
    refine ⟨_, rfl, a, rfl, ⟨_, SqT.of (by rw [upd_ne hxa]; exact e1 _ _ ha)⟩, fun D2 hD2 => ?_⟩
    refine lc_tup (K := K) (a := a) (xs := as) (fun i H2 => Same (upd H' x (.ins C dx [("equal", .ref D1)])) H2 ∧ H2 D2 = some (.lst (as.take i))) ⟨Same.new hD2 _, upd_same⟩ ?_ ?_ ?_
    · rintro i H2 _ ⟨e2, _⟩
      exact SqT.of (e2 _ _ (by rw [upd_ne hxa]; exact e1 _ _ ha))
    · rintro i v H2 hi ⟨e2, g2⟩
      obtain ⟨p, ys, rfl, hp⟩ := ta i v hi
      refine ⟨rfl, _, rfl, p, ys, rfl, .inr ⟨SqT.of (e2 _ _ (by rw [upd_ne (ne_of hp hx (fun z => by cases z))]; exact e1 _ _ hp)), _, g2, by rw [List.length_take]; exact sl_lt (by omega), e2.set hD2 _, ?_⟩⟩
      rw [upd_same, RM.take_succ hi]
    rintro H2 ⟨e2, g2⟩
    rw [List.take_length] at g2
    refine ⟨_, rfl, x, C, dx, _, rfl, e2 _ _ upd_same, hC, n2, by show 1 < 1000; decide, ?_⟩
    exact fin D1 D2 H' H2 hD1 e1 g1 hD2 e2 g2
-- MORE
def spBoundI (K : PySem.W.Frag) : Sp := fun vs H Q _ => ∃ (x C dx e a : Addr) (es as : List V) (v : V), vs = [.ref x, .ref e, .ref a, v] ∧ H x = some (.ins C dx []) ∧ Cls K C ∧ NoAttr K C "equal" ∧ NoAttr K C "above" ∧ NoAttr K C "value" ∧
  H e = some (.lst es) ∧ H a = some (.lst as) ∧ Tups H es ∧ Tups H as ∧ es.length ≤ 1000 ∧ as.length ≤ 1000 ∧ (∃ p ys, v = .ref p ∧ H p = some (.tup ys)) ∧ Made3 H x C dx es as [("value", v)] (Q .non)
theorem ok_Bound___init__ (T : Txt K mg A) (OT : OwT K mg O) : FnOk P w K mg base CX0 2 O.f_Bound___init__ O.fd_Bound___init__ ["self", "equal", "above", "value"] (spBoundI K) := by
  refine OT.m_Bound___init__.F.ok sc_Bound___init__ (fun vs H Q E h => ?_) (fun cdv ar outer s H vs Q E hr h => ?_)
  · obtain ⟨x, C, dx, e, a, es, as, v, rfl, _⟩ := h
    rfl
  obtain ⟨x, C, dx, e, a, es, as, v, rfl, hx, hC, n1, n2, n3, he, ha, te, ta, le, la, hv, q⟩ := h
  refine ⟨_, (pss_cons (ps_expr (EX.pe_indef OT.cr_Sheet OT.cv_Sheet OT.m_Sheet___init__.F.kp (ok_Sheet___init__ T OT) (hr.mono (by decide)) OT.m_Sheet___init__.b .nil pass0 (by rfl) OT.c_Sheet.g (pa_cons (pv 0) (pa_cons (pv 1) (pa_cons (pv 2) pa_nil)))))
    (pss_one (ps_fld (pv 0) (pe_callTy (r := rTupK K) call_tuple_of (by rfl) T.tuple (by decide +kernel) (pa_cons (pv 3) pa_nil)) rfl))), ?_⟩
  refine ⟨_, rfl, _, rfl, _, rfl, x, C, dx, e, a, false, es, as, rfl, hx, hC, n1, n2, he, ha, te, ta, le, la, fun l1 l2 H' ne h1 h2 k g g1 g2 => ?_⟩
  have hx1 : l1 ≠ x := (ne_of_none hx h1).symm
  have hx2 : l2 ≠ x := (ne_of_none hx h2).symm
  obtain ⟨p, ys, rfl, hp⟩ := hv
  have hp' := k _ _ (ne_of hp hx (fun z => by cases z)) hp
  refine ⟨_, rfl, p, ys, rfl, .inr ⟨SqT.of hp', ?_⟩⟩
  refine ⟨_, rfl, x, C, dx, _, rfl, g, hC, n3, by show 2 < 1000; decide, ?_⟩
  exact q l1 l2 _ ne h1 h2 (fun c o nc hc => by rw [upd_ne nc]; exact k _ _ nc hc) upd_same (by rw [upd_ne hx1]; exact g1) (by rw [upd_ne hx2]; exact g2)
def spShutI (K : PySem.W.Frag) : Sp := fun vs H Q _ => ∃ (x C dx e a : Addr) (es as : List V) (v : V), vs = [.ref x, .ref e, .ref a, v] ∧ H x = some (.ins C dx []) ∧ Cls K C ∧ NoAttr K C "equal" ∧ NoAttr K C "above" ∧ NoAttr K C "player" ∧
  H e = some (.lst es) ∧ H a = some (.lst as) ∧ Tups H es ∧ Tups H as ∧ es.length ≤ 1000 ∧ as.length ≤ 1000 ∧ (∃ n : Int, v = .int n) ∧ Made3 H x C dx es as [("player", v)] (Q .non)
theorem ok_Shut___init__ (T : Txt K mg A) (OT : OwT K mg O) : FnOk P w K mg base CX0 2 O.f_Shut___init__ O.fd_Shut___init__ ["self", "equal", "above", "player"] (spShutI K) := by
  refine OT.m_Shut___init__.F.ok sc_Shut___init__ (fun vs H Q E h => ?_) (fun cdv ar outer s H vs Q E hr h => ?_)
  · obtain ⟨x, C, dx, e, a, es, as, v, rfl, _⟩ := h
    rfl
  obtain ⟨x, C, dx, e, a, es, as, v, rfl, hx, hC, n1, n2, n3, he, ha, te, ta, le, la, hv, q⟩ := h
  refine ⟨_, (pss_cons (ps_expr (EX.pe_indef OT.cr_Sheet OT.cv_Sheet OT.m_Sheet___init__.F.kp (ok_Sheet___init__ T OT) (hr.mono (by decide)) OT.m_Sheet___init__.b .nil pass0 (by rfl) OT.c_Sheet.g (pa_cons (pv 0) (pa_cons (pv 1) (pa_cons (pv 2) pa_nil)))))
    (pss_one (ps_fld (pv 0) (pv 3) rfl))), ?_⟩
  refine ⟨_, rfl, _, rfl, _, rfl, x, C, dx, e, a, false, es, as, rfl, hx, hC, n1, n2, he, ha, te, ta, le, la, fun l1 l2 H' ne h1 h2 k g g1 g2 => ?_⟩
  have hx1 : l1 ≠ x := (ne_of_none hx h1).symm
  have hx2 : l2 ≠ x := (ne_of_none hx h2).symm
  obtain ⟨n, rfl⟩ := hv
  refine ⟨_, rfl, ?_⟩
  refine ⟨_, rfl, x, C, dx, _, rfl, g, hC, n3, by show 2 < 1000; decide, ?_⟩
  exact q l1 l2 _ ne h1 h2 (fun c o nc hc => by rw [upd_ne nc]; exact k _ _ nc hc) upd_same (by rw [upd_ne hx1]; exact g1) (by rw [upd_ne hx2]; exact g2)
def spSheetN (C : Addr) : Sp := fun vs H Q _ => ∃ (x dx l1 l2 : Addr) (es as : List V), vs = [.ref x] ∧ H x = some (.ins C dx (fs2 l1 l2)) ∧ H l1 = some (.lst es) ∧ H l2 = some (.lst as) ∧ es.length ≤ 1000 ∧ as.length ≤ 1000 ∧
  ∀ (p : Addr) (H' : Hp), Same H H' → H p = none → H' p = some (.lst (es ++ as)) → Q (.ref p) H'
theorem ok_Sheet_numbers (T : Txt K mg A) (OT : OwT K mg O) : FnOk P w K mg base CX0 1 O.f_Sheet_numbers O.fd_Sheet_numbers ["self"] (spSheetN O.C_Sheet) := by
  refine OT.m_Sheet_numbers.F.ok sc_Sheet_numbers (fun vs H Q E h => ?_) (fun cdv ar outer s H vs Q E hr h => ?_)
  · obtain ⟨x, h⟩ := h
    obtain ⟨dx, l1, l2, es, as, rfl, _⟩ := h
    rfl
  obtain ⟨x, dx, l1, l2, es, as, rfl, hx, h1, h2, le, la, q⟩ := h
  refine ⟨_, (pss_one (ps_ret (pe_lst (StX.pa_star (pe_fld (pv 0) rfl) (StX.pa_star (pe_fld (pv 0) rfl) pa_nil))))), ?_⟩
  refine ⟨_, rfl, x, _, dx, _, _, rfl, hx, OT.c_Sheet.cl, OT.c_Sheet.no (by decide), rfl, l1, es, rfl, .inr (SqL.of h1), ?_⟩
  refine ⟨_, rfl, x, _, dx, _, _, rfl, hx, OT.c_Sheet.cl, OT.c_Sheet.no (by decide), rfl, l2, as, rfl, .inr (SqL.of h2), ?_⟩
  refine ⟨by rw [List.length_append, List.length_append]; exact sl_small (by show es.length + (as.length + 0) ≤ 100000; omega), fun p hp => ?_⟩
  rw [List.append_nil]
  exact q p _ (Same.new hp _) hp upd_same
def spBoundN (C : Addr) : Sp := fun vs H Q _ => ∃ (x dx l1 l2 : Addr) (es as : List V) (v : V), vs = [.ref x] ∧ H x = some (.ins C dx (fs2 l1 l2 ++ [(("value" : Str), v)])) ∧ H l1 = some (.lst es) ∧ H l2 = some (.lst as) ∧ es.length ≤ 1000 ∧ as.length ≤ 1000 ∧
  ∀ (p : Addr) (H' : Hp), Same H H' → H p = none → H' p = some (.lst (es ++ as ++ [v])) → Q (.ref p) H'
theorem ok_Bound_numbers (T : Txt K mg A) (OT : OwT K mg O) : FnOk P w K mg base CX0 1 O.f_Bound_numbers O.fd_Bound_numbers ["self"] (spBoundN O.C_Bound) := by
  refine OT.m_Bound_numbers.F.ok sc_Bound_numbers (fun vs H Q E h => ?_) (fun cdv ar outer s H vs Q E hr h => ?_)
  · obtain ⟨x, h⟩ := h
    obtain ⟨dx, l1, l2, es, as, v, rfl, _⟩ := h
    rfl
  obtain ⟨x, dx, l1, l2, es, as, v, rfl, hx, h1, h2, le, la, q⟩ := h
  refine ⟨_, (pss_one (ps_ret (pe_lst (StX.pa_star (pe_fld (pv 0) rfl) (StX.pa_star (pe_fld (pv 0) rfl) (pa_cons (pe_fld (pv 0) rfl) pa_nil)))))), ?_⟩
  refine ⟨_, rfl, x, _, dx, _, _, rfl, hx, OT.c_Bound.cl, OT.c_Bound.no (by decide), rfl, l1, es, rfl, .inr (SqL.of h1), ?_⟩
  refine ⟨_, rfl, x, _, dx, _, _, rfl, hx, OT.c_Bound.cl, OT.c_Bound.no (by decide), rfl, l2, as, rfl, .inr (SqL.of h2), ?_⟩
  refine ⟨_, rfl, x, _, dx, _, _, rfl, hx, OT.c_Bound.cl, OT.c_Bound.no (by decide), rfl, ?_⟩
  refine ⟨by rw [List.length_append, List.length_append]; exact sl_small (by show es.length + (as.length + 1) ≤ 100000; omega), fun p hp => ?_⟩
  refine q p _ (Same.new hp _) hp ?_
  rw [upd_same, List.append_assoc]
def spShutN (C : Addr) : Sp := fun vs H Q _ => ∃ (x dx l1 l2 : Addr) (es as : List V) (v : V), vs = [.ref x] ∧ H x = some (.ins C dx (fs2 l1 l2 ++ [(("player" : Str), v)])) ∧ H l1 = some (.lst es) ∧ H l2 = some (.lst as) ∧ es.length ≤ 1000 ∧ as.length ≤ 1000 ∧
  ∀ (p : Addr) (H' : Hp), Same H H' → H p = none → H' p = some (.lst (es ++ as ++ [v])) → Q (.ref p) H'
theorem ok_Shut_numbers (T : Txt K mg A) (OT : OwT K mg O) : FnOk P w K mg base CX0 1 O.f_Shut_numbers O.fd_Shut_numbers ["self"] (spShutN O.C_Shut) := by
  refine OT.m_Shut_numbers.F.ok sc_Shut_numbers (fun vs H Q E h => ?_) (fun cdv ar outer s H vs Q E hr h => ?_)
  · obtain ⟨x, h⟩ := h
    obtain ⟨dx, l1, l2, es, as, v, rfl, _⟩ := h
    rfl
  obtain ⟨x, dx, l1, l2, es, as, v, rfl, hx, h1, h2, le, la, q⟩ := h
  refine ⟨_, (pss_one (ps_ret (pe_lst (StX.pa_star (pe_fld (pv 0) rfl) (StX.pa_star (pe_fld (pv 0) rfl) (pa_cons (pe_fld (pv 0) rfl) pa_nil)))))), ?_⟩
  refine ⟨_, rfl, x, _, dx, _, _, rfl, hx, OT.c_Shut.cl, OT.c_Shut.no (by decide), rfl, l1, es, rfl, .inr (SqL.of h1), ?_⟩
  refine ⟨_, rfl, x, _, dx, _, _, rfl, hx, OT.c_Shut.cl, OT.c_Shut.no (by decide), rfl, l2, as, rfl, .inr (SqL.of h2), ?_⟩
  refine ⟨_, rfl, x, _, dx, _, _, rfl, hx, OT.c_Shut.cl, OT.c_Shut.no (by decide), rfl, ?_⟩
  refine ⟨by rw [List.length_append, List.length_append]; exact sl_small (by show es.length + (as.length + 1) ≤ 100000; omega), fun p hp => ?_⟩
  refine q p _ (Same.new hp _) hp ?_
  rw [upd_same, List.append_assoc]
end

-- CUT3
def spLaw (K : PySem.W.Frag) : Sp := fun vs H Q _ => ∃ (a : Addr) (ns : List Int), vs = [.ref a] ∧ SqL K H a (ns.map V.int) ∧ ns.length ≤ 63 ∧ ∀ H', Q (.bl true) H'
theorem eqLL {K : PySem.W.Frag} {H : Hp} {a b : Addr} {xs ys : List V} {n : Nat} (h : H a = some (.lst xs)) (g : H b = some (.lst ys)) (hp : Paired (EqD K H n) xs ys) (hl : xs.length ≤ 100000) : EqD K H (n + 1) (.ref a) (.ref b) :=
  .inr (.inl ⟨a, b, xs, ys, rfl, rfl, h, g, hp, hl⟩)
theorem paired_app {α β : Type} {R : α → β → Prop} {xs2 : List α} {ys2 : List β} (r : Paired R xs2 ys2) : ∀ {xs : List α} {ys : List β}, Paired R xs ys → Paired R (xs ++ xs2) (ys ++ ys2)
  | _, _, .nil => r
  | _, _, .cons h t => .cons h (paired_app r t)
/-- a new list, made after H1 -/
def NewL (H1 : Hp) (D : Addr) (H' : Hp) (v : V) (vs : List V) : Prop := ∃ p, v = .ref p ∧ p ≠ D ∧ H1 p = none ∧ H' p = some (.lst vs)
theorem NewL.mono {H1 H' H2 : Hp} {D : Addr} {v : V} {vs : List V} (h : NewL H1 D H' v vs) (e : Same H' H2) : NewL H1 D H2 v vs := by
  obtain ⟨p, h1, h2, h3, h4⟩ := h
  exact ⟨p, h1, h2, h3, e _ _ h4⟩
section
variable {P : Program} {w : World} {K : PySem.W.Frag} {mg : Str → Option Value} {base : Heap} {A : Ad} {O : AdO}
set_option maxHeartbeats 4000000 in
theorem ok_law (T : Txt K mg A) (OT : OwT K mg O) : FnOk P w K mg base CX0 20 A.f_law A.fd_law ["_law_script"] (spLaw K) := by
  refine T.d_law.F.ok sc_law (fun vs H Q E h => ?_) (fun cdv ar outer s H vs Q E hr h => ?_)
  · obtain ⟨a, ns, rfl, _⟩ := h
    rfl
  obtain ⟨a, ns, rfl, hS, h63, q⟩ := h
  refine ⟨_, (pss_cons (ps_set (i := 1) sc_law.nd rfl (Or.inr rfl) (pe_call (ok_bag T) (hr.mono (by decide)) rfl T.d_bag.m T.d_bag.F.kp T.d_bag.b .nil pass0 (pa_cons (pv 0) pa_nil)))
    (pss_cons (ps_for PassesOwn.never rfl (pi_range1 rfl T.range (pa_cons pe_int pa_nil)) (pg_name (i := 2) sc_law.nd rfl (Or.inl rfl)) (pss_cons (ps_setLc (i := 3) (own := [("_law_k", 15)]) (g := gName 15) (tt := tYes) rfl sc_law.nd rfl rfl (sw_true rfl rfl rfl (by decide +kernel)) (pi_range1 rfl T.range (pa_cons (pe_call (ok_pull T) (hr.mono (by decide)) rfl T.d_pull.m T.d_pull.F.kp T.d_pull.b .nil pass0 (pa_cons (pv 1) (pa_cons pe_int pa_nil))) pa_nil)) (blkOk_by (own := [("_law_k", 15)]) (N := ["_law_script", "_law_bag_here", "_law_turn", "_law_equal", "_law_above", "_law_value", "_law_player", "_law_given", "_law_more", "_law_some", "_law_again", "_law_sheet", "_law_found", "_law_numbers", "_law_kinds", "_law_k"]) (sc := defScope s_law) (by decide +kernel)) (fun _ _ _ _ _ => (pg_name (i := 15) sc_law.nd rfl (Or.inl rfl))) (fun _ _ _ _ _ => pts_nil) (fun _ _ _ _ _ => (pe_call (ok_ratio T) (hr.mono (by decide)) rfl T.d_ratio.m T.d_ratio.F.kp T.d_ratio.b .nil pass0 (pa_cons (pv 1) (pa_cons pe_int pa_nil)))))
    (pss_cons (ps_setLc (i := 4) (own := [("_law_k", 15)]) (g := gName 15) (tt := tYes) rfl sc_law.nd rfl rfl (sw_true rfl rfl rfl (by decide +kernel)) (pi_range1 rfl T.range (pa_cons (pe_call (ok_pull T) (hr.mono (by decide)) rfl T.d_pull.m T.d_pull.F.kp T.d_pull.b .nil pass0 (pa_cons (pv 1) (pa_cons pe_int pa_nil))) pa_nil)) (blkOk_by (own := [("_law_k", 15)]) (N := ["_law_script", "_law_bag_here", "_law_turn", "_law_equal", "_law_above", "_law_value", "_law_player", "_law_given", "_law_more", "_law_some", "_law_again", "_law_sheet", "_law_found", "_law_numbers", "_law_kinds", "_law_k"]) (sc := defScope s_law) (by decide +kernel)) (fun _ _ _ _ _ => (pg_name (i := 15) sc_law.nd rfl (Or.inl rfl))) (fun _ _ _ _ _ => pts_nil) (fun _ _ _ _ _ => (pe_call (ok_ratio T) (hr.mono (by decide)) rfl T.d_ratio.m T.d_ratio.F.kp T.d_ratio.b .nil pass0 (pa_cons (pv 1) (pa_cons pe_int pa_nil)))))
    (pss_cons (ps_par (i := 5) (j := 6) (by rfl) sc_law.nd rfl rfl (by decide) rfl rfl (pa_cons (pe_call (ok_ratio T) (hr.mono (by decide)) rfl T.d_ratio.m T.d_ratio.F.kp T.d_ratio.b .nil pass0 (pa_cons (pv 1) (pa_cons pe_int pa_nil))) (pa_cons (pe_op op_add pe_int (pe_call (ok_pull T) (hr.mono (by decide)) rfl T.d_pull.m T.d_pull.F.kp T.d_pull.b .nil pass0 (pa_cons (pv 1) (pa_cons pe_int pa_nil)))) pa_nil)) (by rfl))
    (pss_cons (ps_par (i := 7) (j := 8) (by rfl) sc_law.nd rfl rfl (by decide) rfl rfl (pa_cons (pe_callTy (r := rListK K) call_list_of (by rfl) T.list (by decide +kernel) (pa_cons (pv 3) pa_nil)) (pa_cons (pe_callTy (r := rListK K) call_list_of (by rfl) T.list (by decide +kernel) (pa_cons (pv 4) pa_nil)) pa_nil)) (by rfl))
    (pss_cons (ps_set (i := 9) sc_law.nd rfl (Or.inl rfl) (pe_lst (pa_cons (pe_make (OT.m_Sheet___init__.mk' OT.c_Sheet) (ok_Sheet___init__ T OT) (hr.mono (by decide)) (by rfl) OT.c_Sheet.g OT.m_Sheet___init__.b .nil pass0 (pa_cons (pv 7) (pa_cons (pv 8) pa_nil))) (pa_cons (pe_make (OT.m_Bound___init__.mk' OT.c_Bound) (ok_Bound___init__ T OT) (hr.mono (by decide)) (by rfl) OT.c_Bound.g OT.m_Bound___init__.b .nil pass0 (pa_cons (pv 7) (pa_cons (pv 8) (pa_cons (pv 5) pa_nil)))) (pa_cons (pe_make (OT.m_Shut___init__.mk' OT.c_Shut) (ok_Shut___init__ T OT) (hr.mono (by decide)) (by rfl) OT.c_Shut.g OT.m_Shut___init__.b .nil pass0 (pa_cons (pv 7) (pa_cons (pv 8) (pa_cons (pv 6) pa_nil)))) pa_nil)))))
    (pss_cons (ps_expr (pe_bm0 PySem.F.plainAttrs_list PySem.F.slot_list_clear PySem.F.type_list_clear mt_clear (pv 7)))
    (pss_cons (ps_expr (pe_bm PySem.F.plainAttrs_list PySem.F.slot_list_append PySem.F.type_list_append mt_append (pv 8) (pa_cons (pe_tup (pa_cons pe_int (pa_cons pe_int pa_nil))) pa_nil)))
    (pss_cons (ps_for PassesOwn.never rfl (pi_range1 rfl T.range (pa_cons pe_int pa_nil)) (pg_name (i := 10) sc_law.nd rfl (Or.inl rfl)) (pss_cons (ps_setLc (i := 12) (own := [("_law_sheet", 11)]) (g := gName 11) (tt := tYes) rfl sc_law.nd rfl rfl (sw_true rfl rfl rfl (by decide +kernel)) (pi_list (pv 9)) (blkOk_by (own := [("_law_sheet", 11)]) (N := ["_law_script", "_law_bag_here", "_law_turn", "_law_equal", "_law_above", "_law_value", "_law_player", "_law_given", "_law_more", "_law_some", "_law_again", "_law_sheet", "_law_found", "_law_numbers", "_law_kinds", "_law_k"]) (sc := defScope s_law) (by decide +kernel)) (fun _ _ _ _ _ => (pg_name (i := 11) sc_law.nd rfl (Or.inl rfl))) (fun _ _ _ _ _ => pts_nil) (fun _ _ _ _ _ => (pe_alt (pe_meth0 (pv 11) OT.c_Sheet.cl OT.m_Sheet_numbers.mt (ok_Sheet_numbers T OT) (hr.mono (by decide)) OT.m_Sheet_numbers.b .nil pass0) (pe_alt (pe_meth0 (pv 11) OT.c_Bound.cl OT.m_Bound_numbers.mt (ok_Bound_numbers T OT) (hr.mono (by decide)) OT.m_Bound_numbers.b .nil pass0) (pe_meth0 (pv 11) OT.c_Shut.cl OT.m_Shut_numbers.mt (ok_Shut_numbers T OT) (hr.mono (by decide)) OT.m_Shut_numbers.b .nil pass0)))))
    (pss_cons (ps_if (pt_not (pt_val (pe_call (ok_same T) (hr.mono (by decide)) rfl T.d_same.m T.d_same.F.kp T.d_same.b .nil pass0 (pa_cons (pv 12) (pa_cons (pe_lst (pa_cons (pe_op op_cat (pv 3) (pv 4)) (pa_cons (pe_op op_cat (pe_op op_cat (pv 3) (pv 4)) (pe_lst (pa_cons (pv 5) pa_nil))) (pa_cons (pe_op op_cat (pe_op op_cat (pv 3) (pv 4)) (pe_lst (pa_cons (pv 6) pa_nil))) pa_nil)))) pa_nil))))) (pss_one (ps_ret pe_bl)) pss_nil)
    (pss_one (ps_for PassesOwn.never rfl (pi_list (pv 12)) (pg_name (i := 13) sc_law.nd rfl (Or.inl rfl)) (pss_one (ps_expr (pe_bm0 PySem.F.plainAttrs_list PySem.F.slot_list_clear PySem.F.type_list_clear mt_clear (pv 13)))))))))
    (pss_cons (ps_for PassesOwn.never rfl (pi_list (pv 9)) (pg_name (i := 11) sc_law.nd rfl (Or.inl rfl)) (pss_one (ps_if (PW.pt (pw_or (pt_not (pt_val (pe_call (ok_same T) (hr.mono (by decide)) rfl T.d_same.m T.d_same.F.kp T.d_same.b .nil pass0 (pa_cons (pe_lst (pa_cons (pe_fld (pv 11) rfl) (pa_cons (pe_fld (pv 11) rfl) pa_nil))) (pa_cons (pe_lst (pa_cons (pv 3) (pa_cons (pv 4) pa_nil))) pa_nil))))) (pw_or1 (pt_not (pt_val (pe_callB (r := rIsi K) call_isi (by rfl) T.isinstance (by decide +kernel) (pa_cons (pv 11) (pa_cons (pe_glob (v := .ref O.C_Sheet) (by rfl) OT.c_Sheet.g rfl) pa_nil)))))))) (pss_one (ps_ret pe_bl)) pss_nil)))
    (pss_cons (ps_if (pt_not (pt_val (pe_call (ok_same T) (hr.mono (by decide)) rfl T.d_same.m T.d_same.F.kp T.d_same.b .nil pass0 (pa_cons (pe_lst (pa_cons (pe_fld (pe_ix (r := rIxL K) ix_list (pv 9) pe_int (fun _ _ => rfl)) rfl) (pa_cons (pe_fld (pe_ix (r := rIxL K) ix_list (pv 9) pe_int (fun _ _ => rfl)) rfl) pa_nil))) (pa_cons (pe_lst (pa_cons (pv 5) (pa_cons (pv 6) pa_nil))) pa_nil))))) (pss_one (ps_ret pe_bl)) pss_nil)
    (pss_cons (ps_set (i := 14) sc_law.nd rfl (Or.inl rfl) (pe_lst (pa_cons (pe_callB (r := rIsi K) call_isi (by rfl) T.isinstance (by decide +kernel) (pa_cons (pe_ix (r := rIxL K) ix_list (pv 9) pe_int (fun _ _ => rfl)) (pa_cons (pe_glob (v := .ref O.C_Bound) (by rfl) OT.c_Bound.g rfl) pa_nil))) (pa_cons (pe_callB (r := rIsi K) call_isi (by rfl) T.isinstance (by decide +kernel) (pa_cons (pe_ix (r := rIxL K) ix_list (pv 9) pe_int (fun _ _ => rfl)) (pa_cons (pe_glob (v := .ref O.C_Shut) (by rfl) OT.c_Shut.g rfl) pa_nil))) (pa_cons (pe_callB (r := rIsi K) call_isi (by rfl) T.isinstance (by decide +kernel) (pa_cons (pe_ix (r := rIxL K) ix_list (pv 9) pe_int (fun _ _ => rfl)) (pa_cons (pe_glob (v := .ref O.C_Shut) (by rfl) OT.c_Shut.g rfl) pa_nil))) pa_nil)))))
    (pss_cons (ps_if (PW.pt (pw_or (pt_val (pe_callB (r := rAny K) (cr_any rfl) (by rfl) T.any (by decide +kernel) (pa_cons (pv 14) pa_nil))) (pw_or (pt_val (pe_callB (r := rIsi K) call_isi (by rfl) T.isinstance (by decide +kernel) (pa_cons (pe_ix (r := rIxL K) ix_list (pv 9) pe_int (fun _ _ => rfl)) (pa_cons (pe_glob (v := .ref O.C_Bound) (by rfl) OT.c_Bound.g rfl) pa_nil)))) (pw_or (pt_not (pt_val (pe_callB (r := rIsi K) call_isi (by rfl) T.isinstance (by decide +kernel) (pa_cons (pe_ix (r := rIxL K) ix_list (pv 9) pe_int (fun _ _ => rfl)) (pa_cons (pe_glob (v := .ref O.C_Bound) (by rfl) OT.c_Bound.g rfl) pa_nil))))) (pw_or1 (pt_not (pt_val (pe_callB (r := rIsi K) call_isi (by rfl) T.isinstance (by decide +kernel) (pa_cons (pe_ix (r := rIxL K) ix_list (pv 9) pe_int (fun _ _ => rfl)) (pa_cons (pe_glob (v := .ref O.C_Shut) (by rfl) OT.c_Shut.g rfl) pa_nil)))))))))) (pss_one (ps_ret pe_bl)) pss_nil)
    (pss_one (ps_if (pt_cmpR (r := rNeD K) (op_neD hr.units) (pe_meth0 (pe_make (OT.m_Sheet___init__.mk' OT.c_Sheet) (ok_Sheet___init__ T OT) (hr.mono (by decide)) (by rfl) OT.c_Sheet.g OT.m_Sheet___init__.b .nil pass0 (pa_cons (pe_callTy (r := rTupK K) call_tuple_of (by rfl) T.tuple (by decide +kernel) (pa_cons (pv 3) pa_nil)) (pa_cons (pe_callTy (r := rTupK K) call_tuple_of (by rfl) T.tuple (by decide +kernel) (pa_cons (pv 4) pa_nil)) pa_nil))) OT.c_Sheet.cl OT.m_Sheet_numbers.mt (ok_Sheet_numbers T OT) (hr.mono (by decide)) OT.m_Sheet_numbers.b .nil pass0) (pe_op op_cat (pv 3) (pv 4)) (nomark _)) (pss_one (ps_ret pe_bl)) pss_nil)))))))))))))))
    (pss_one (ps_ret pe_bl)))), ?_⟩
  refine ⟨_, rfl, a, ns, rfl, hS, h63, fun b l H1 e1 nb nl B => ?_⟩
  refine ⟨5, rfl, by decide, by decide, ?_⟩
  refine for_range (n := 5) (fun _ σ H' => Bag H' b l ∧ ∃ u0 u2 u3 u4 u5 u6 u7 u8 u9 u10 u11 u12 u13 u14 u15 : Option V, σ = [u0, some (.ref b), u2, u3, u4, u5, u6, u7, u8, u9, u10, u11, u12, u13, u14, u15]) ⟨B, _, _, _, _, _, _, _, _, _, _, _, _, _, _, _, rfl⟩ ?_ ?_
  · clear B e1 nb nl
    rintro i σ H1 hi ⟨B, u0, u2, u3, u4, u5, u6, u7, u8, u9, u10, u11, u12, u13, u14, u15, rfl⟩
    -- the two lists of numbers
    refine ⟨_, rfl, b, l, 6, rfl, B, by decide, by decide, fun r H2 r0 r1 ap B => ?_⟩
    refine ⟨r, rfl, by omega, by omega, fun D1 hD1 => ?_⟩
    refine lc_range (lo := 0) (n := r.toNat) (Ratios 7 H2 b l D1) (ratios_start B hD1) ?_ ?_
    · intro j H3 hj h
      obtain ⟨B3, _, us, qs, hus, hlen, _⟩ := id h
      refine ⟨rfl, _, rfl, b, l, _, 7, rfl, B3, by decide, by decide, by decide, fun p H4 x ap4 B4 p0 hp bx => ?_⟩
      exact ⟨us, ap4 _ _ (B.ne hD1) hus, sl_lt (by omega), ratios_step B hD1 h hus ap4 B4 hp bx⟩
    rintro H3 ⟨B3, ap3, us1, qs1, hus, hlen, hR, _⟩
    have F : Fr b l H3 [(D1, .lst us1)] [(us1, qs1)] := ((Fr.nil B3).cons (fun _ _ h => nomatch h) (B.ne hD1) (B.ne2 hD1) hus).addR hR
    have le1 : us1.length ≤ 10 := by omega
    clear ap B hD1 B3 ap3 hus hlen hR
    refine ⟨_, rfl, b, l, 5, rfl, F.bag, by decide, by decide, fun r H2 r0 r1 ap B => ?_⟩
    have F := F.drawn ap B
    refine ⟨r, rfl, by omega, by omega, fun D2 hD2 => ?_⟩
    refine lc_range (lo := 0) (n := r.toNat) (Ratios 7 H2 b l D2) (ratios_start B hD2) ?_ ?_
    · intro j H3 hj h
      obtain ⟨B3, _, us, qs, hus, hlen, _⟩ := id h
      refine ⟨rfl, _, rfl, b, l, _, 7, rfl, B3, by decide, by decide, by decide, fun p H4 x ap4 B4 p0 hp bx => ?_⟩
      exact ⟨us, ap4 _ _ (B.ne hD2) hus, sl_lt (by omega), ratios_step B hD2 h hus ap4 B4 hp bx⟩
    rintro H4 ⟨B4, ap4, us2, qs2, hus, hlen, hR, _⟩
    have F : Fr b l H4 [(D2, .lst us2), (D1, .lst us1)] [(us2, qs2), (us1, qs1)] := ((F.drawn ap4 B4).cons (F.fresh hD2) (B.ne hD2) (B.ne2 hD2) hus).addR hR
    have le2 : us2.length ≤ 10 := by omega
    clear ap B hD2 B4 ap4 hus hlen hR
    -- the value, the player
    refine ⟨_, rfl, b, l, _, 7, rfl, F.bag, by decide, by decide, by decide, fun pv H5 x ap5 B5 p0 hp bx => ?_⟩
    have F := (F.drawn ap5 B5).addR (vs := [.ref pv]) (qs := [x]) (.cons ⟨pv, rfl, hp⟩ .nil)
    clear ap5 B5 p0 hp bx
    refine ⟨_, rfl, b, l, 5, rfl, F.bag, by decide, by decide, fun r5 H6 r0 r1 ap6 B6 => ?_⟩
    have F := F.drawn ap6 B6
    refine ⟨_, _, rfl, rfl, _, _, rfl, ?_⟩
    clear ap6 B6
    -- the lists that are handed in
    refine ⟨_, rfl, D1, us1, rfl, .inl (SqL.of (F.at_ 1 _ rfl)), fun g ng => ?_⟩
    have F := F.new ng (.lst us1)
    refine ⟨_, rfl, D2, us2, rfl, .inl (SqL.of (F.at_ 1 _ rfl)), fun m nm => ?_⟩
    have F := F.new nm (.lst us2)
    generalize upd (upd H6 g (.lst us1)) m (.lst us2) = H7 at F
    refine ⟨_, _, rfl, ?_⟩
    -- the three sheets
    refine ⟨_, rfl, _, rfl, fun x0 dx0 n0 nd0 ne0 => ?_⟩
    have F0 := (F.same (Same.new nd0 (.own x0))).new (p := x0) (by rw [upd_ne ne0.symm]; exact n0) (.ins O.C_Sheet dx0 [])
    refine ⟨x0, _, dx0, g, m, false, us1, us2, rfl, upd_same, OT.c_Sheet.cl, OT.c_Sheet.no (by decide), OT.c_Sheet.no (by decide), F0.at_ 2 _ rfl, F0.at_ 1 _ rfl, (F0.rl 2 _ rfl).tups, (F0.rl 1 _ rfl).tups, by omega, by omega, fun l01 l02 H8 d1 d2 d3 d4 d5 d6 d7 => ⟨rfl, ?_⟩⟩
    have F := F.made n0 nd0 ne0 d1 d2 d3 d4 d5 d6 d7
    clear n0 nd0 ne0 d1 d2 d3 d4 d5 d6 d7 F0
    refine ⟨_, rfl, _, rfl, _, rfl, fun x1 dx1 n0 nd0 ne0 => ?_⟩
    have F0 := (F.same (Same.new nd0 (.own x1))).new (p := x1) (by rw [upd_ne ne0.symm]; exact n0) (.ins O.C_Bound dx1 [])
    refine ⟨x1, _, dx1, g, m, us1, us2, .ref pv, rfl, upd_same, OT.c_Bound.cl, OT.c_Bound.no (by decide), OT.c_Bound.no (by decide), OT.c_Bound.no (by decide), F0.at_ 5 _ rfl, F0.at_ 4 _ rfl, (F0.rl 2 _ rfl).tups, (F0.rl 1 _ rfl).tups, by omega, by omega, (F0.rl 0 _ rfl).tups 0 _ rfl, fun l11 l12 H9 d1 d2 d3 d4 d5 d6 d7 => ⟨rfl, ?_⟩⟩
    have F := F.made n0 nd0 ne0 d1 d2 d3 d4 d5 d6 d7
    clear n0 nd0 ne0 d1 d2 d3 d4 d5 d6 d7 F0
    refine ⟨_, rfl, _, rfl, _, rfl, fun x2 dx2 n0 nd0 ne0 => ?_⟩
    have F0 := (F.same (Same.new nd0 (.own x2))).new (p := x2) (by rw [upd_ne ne0.symm]; exact n0) (.ins O.C_Shut dx2 [])
    refine ⟨x2, _, dx2, g, m, us1, us2, _, rfl, upd_same, OT.c_Shut.cl, OT.c_Shut.no (by decide), OT.c_Shut.no (by decide), OT.c_Shut.no (by decide), F0.at_ 8 _ rfl, F0.at_ 7 _ rfl, (F0.rl 2 _ rfl).tups, (F0.rl 1 _ rfl).tups, by omega, by omega, ⟨_, rfl⟩, fun l21 l22 H10 d1 d2 d3 d4 d5 d6 d7 => ⟨rfl, ?_⟩⟩
    have F := F.made n0 nd0 ne0 d1 d2 d3 d4 d5 d6 d7
    clear n0 nd0 ne0 d1 d2 d3 d4 d5 d6 d7 F0
    refine ⟨slr rfl, fun S nS => ?_⟩
    have F := F.new nS (.lst [V.ref x0, V.ref x1, V.ref x2])
    -- the handed lists are changed
    refine ⟨_, rfl, .inl ⟨rfl, _, SqL.of (F.at_ 11 _ rfl)⟩, g, us1, rfl, rfl, F.at_ 11 _ rfl, ?_⟩
    have F := F.put (i := 11) rfl (fun _ z => nomatch z) (.lst [])
    refine ⟨_, rfl, .inl ⟨rfl, _, SqL.of (F.at_ 10 _ rfl)⟩, slr rfl, fun t1 nt1 => ?_⟩
    have F := F.same (Same.new nt1 (.tup [V.int 1, V.int 1]))
    refine ⟨m, us2, _, rfl, rfl, F.at_ 10 _ rfl, sl_lt (by omega), ?_⟩
    have F := F.put (i := 10) rfl (fun _ z => nomatch z) (.lst (us2 ++ [.ref t1]))
    have F : Fr b l _ [(S, .lst [V.ref x0, V.ref x1, V.ref x2]), (l22, .lst us2), (l21, .lst us1), (x2, .ins O.C_Shut dx2 (fs2 l21 l22 ++ [(("player" : Str), V.int (1 + r5))])), (l12, .lst us2), (l11, .lst us1), (x1, .ins O.C_Bound dx1 (fs2 l11 l12 ++ [(("value" : Str), V.ref pv)])), (l02, .lst us2), (l01, .lst us1), (x0, .ins O.C_Sheet dx0 (fs2 l01 l02 ++ [])), (m, .lst (us2 ++ [.ref t1])), (g, .lst []), (D2, .lst us2), (D1, .lst us1)] [([.ref pv], [x]), (us2, qs2), (us1, qs1)] := F
    clear nS nt1 ng nm
    generalize hLL : ([(S, .lst [V.ref x0, V.ref x1, V.ref x2]), (l22, .lst us2), (l21, .lst us1), (x2, .ins O.C_Shut dx2 (fs2 l21 l22 ++ [(("player" : Str), V.int (1 + r5))])), (l12, .lst us2), (l11, .lst us1), (x1, .ins O.C_Bound dx1 (fs2 l11 l12 ++ [(("value" : Str), V.ref pv)])), (l02, .lst us2), (l01, .lst us1), (x0, .ins O.C_Sheet dx0 (fs2 l01 l02 ++ [])), (m, .lst (us2 ++ [.ref t1])), (g, .lst []), (D2, .lst us2), (D1, .lst us1)] : List (Addr × HO)) = LL at F
    generalize upd (upd _ t1 _) m _ = H11 at F
    -- what the frame says, at any heap
    have at0 : ∀ {H : Hp}, Fr b l H LL [([.ref pv], [x]), (us2, qs2), (us1, qs1)] → H S = some (.lst [V.ref x0, V.ref x1, V.ref x2]) := fun F => by subst hLL; exact F.at_ 0 _ rfl
    have at1 : ∀ {H : Hp}, Fr b l H LL [([.ref pv], [x]), (us2, qs2), (us1, qs1)] → H D1 = some (.lst us1) ∧ H D2 = some (.lst us2) := fun F => by subst hLL; exact ⟨F.at_ 13 _ rfl, F.at_ 12 _ rfl⟩
    have ax0 : ∀ {H : Hp}, Fr b l H LL [([.ref pv], [x]), (us2, qs2), (us1, qs1)] → H x0 = some (.ins O.C_Sheet dx0 (fs2 l01 l02)) ∧ H l01 = some (.lst us1) ∧ H l02 = some (.lst us2) := fun F => by subst hLL; exact ⟨F.at_ 9 _ rfl, F.at_ 8 _ rfl, F.at_ 7 _ rfl⟩
    have ax1 : ∀ {H : Hp}, Fr b l H LL [([.ref pv], [x]), (us2, qs2), (us1, qs1)] → H x1 = some (.ins O.C_Bound dx1 (fs2 l11 l12 ++ [(("value" : Str), V.ref pv)])) ∧ H l11 = some (.lst us1) ∧ H l12 = some (.lst us2) := fun F => by subst hLL; exact ⟨F.at_ 6 _ rfl, F.at_ 5 _ rfl, F.at_ 4 _ rfl⟩
    have ax2 : ∀ {H : Hp}, Fr b l H LL [([.ref pv], [x]), (us2, qs2), (us1, qs1)] → H x2 = some (.ins O.C_Shut dx2 (fs2 l21 l22 ++ [(("player" : Str), V.int (1 + r5))])) ∧ H l21 = some (.lst us1) ∧ H l22 = some (.lst us2) := fun F => by subst hLL; exact ⟨F.at_ 3 _ rfl, F.at_ 2 _ rfl, F.at_ 1 _ rfl⟩
    clear hLL
    have eqs : ∀ {H : Hp} {n : Nat}, Fr b l H LL [([.ref pv], [x]), (us2, qs2), (us1, qs1)] → Paired (EqD K H (n + 1)) us1 us1 ∧ Paired (EqD K H (n + 1)) us2 us2 ∧ EqD K H (n + 1) (.ref pv) (.ref pv) := fun {H n} F => by
      refine ⟨eqRL (F.rl 2 _ rfl) (F.rl 2 _ rfl), eqRL (F.rl 1 _ rfl) (F.rl 1 _ rfl), ?_⟩
      cases eqRL (K := K) (n := n) (F.rl 0 _ rfl) (F.rl 0 _ rfl) with
      | cons h _ => exact h
    have tup2 : ∀ {H : Hp}, Fr b l H LL [([.ref pv], [x]), (us2, qs2), (us1, qs1)] → RL H us1 qs1 ∧ RL H us2 qs2 := fun F => ⟨F.rl 2 _ rfl, F.rl 1 _ rfl⟩
    generalize ([([.ref pv], [x]), (us2, qs2), (us1, qs1)] : List (List V × List Rat)) = RR at *
    -- the numbers, twice
    refine ⟨2, rfl, by decide, by decide, ?_⟩
    refine for_range (n := 2) (fun _ σ H' => Fr b l H' LL RR ∧ ∃ u10 u11 u12 u13 u14 u15 : Option V, σ = [u0, some (.ref b), some (.int (0 + (i : Int))), some (.ref D1), some (.ref D2), some (.ref pv), some (.int (1 + r5)), some (.ref g), some (.ref m), some (.ref S), u10, u11, u12, u13, u14, u15]) ⟨F, _, _, _, _, _, _, rfl⟩ ?_ ?_
    · clear F
      rintro j σ H1 hj ⟨F, u10, u11, u12, u13, u14, u15, rfl⟩
      refine ⟨_, rfl, S, rfl, ⟨_, SqL.of (at0 F)⟩, fun D hD => ?_⟩
      refine lc_list (K := K) (a := S) (xs := [V.ref x0, V.ref x1, V.ref x2]) (fun i H' => Same H1 H' ∧ ∃ acc, H' D = some (.lst acc) ∧ acc.length ≤ i ∧ Paired (NewL H1 D H') acc ([us1 ++ us2, us1 ++ us2 ++ [.ref pv], us1 ++ us2 ++ [.int (1 + r5)]].take i)) ⟨Same.new hD _, [], upd_same, Nat.le_refl _, .nil⟩ ?_ ?_ ?_
      · rintro k H' _ ⟨e, _⟩
        exact SqL.of (e _ _ (at0 F))
      · rintro k v H' hk ⟨e, acc, hacc, hlen, hP⟩
        have F' := F.same e
        have nxt : ∀ (p : Addr) (H2 : Hp) (vs : List V), ([us1 ++ us2, us1 ++ us2 ++ [.ref pv], us1 ++ us2 ++ [.int (1 + r5)]] : List (List V))[k]? = some vs → Same H' H2 → H' p = none → H2 p = some (.lst vs) →
            ∃ acc, H2 D = some (.lst acc) ∧ acc.length < sizeLine ∧ Same H1 (upd H2 D (.lst (acc ++ [.ref p]))) ∧ ∃ acc', upd H2 D (.lst (acc ++ [.ref p])) D = some (.lst acc') ∧ acc'.length ≤ k + 1 ∧ Paired (NewL H1 D (upd H2 D (.lst (acc ++ [.ref p])))) acc' ([us1 ++ us2, us1 ++ us2 ++ [.ref pv], us1 ++ us2 ++ [.int (1 + r5)]].take (k + 1)) := by
          intro p H2 vs hvs e2 n2 g2
          have hpD : p ≠ D := (ne_of_none hacc n2).symm
          have hk3 : k < 3 := by
            obtain ⟨z, _⟩ := List.getElem?_eq_some_iff.mp hvs
            exact z
          refine ⟨acc, e2 _ _ hacc, sl_lt (by omega), (e.trans e2).set hD _, _, upd_same, by rw [List.length_append]; show acc.length + 1 ≤ k + 1; omega, ?_⟩
          rw [RM.take_succ hvs]
          refine paired_snoc ⟨p, rfl, hpD, e.free n2, by rw [upd_ne hpD]; exact g2⟩ (paired_imp (fun v vs z => ?_) hP)
          obtain ⟨p', h1, h2, h3, h4⟩ := z
          exact ⟨p', h1, h2, h3, by rw [upd_ne h2]; exact e2 _ _ h4⟩
        match k, hk, nxt with
        | 0, hk, nxt =>
          cases hk
          obtain ⟨g0, g1, g2⟩ := ax0 F'
          exact ⟨rfl, .inl ⟨_, rfl, x0, dx0, _, rfl, g0, rfl, x0, dx0, l01, l02, us1, us2, rfl, g0, g1, g2, by omega, by omega, fun p H2 e2 n2 g2 => nxt p H2 _ rfl e2 n2 g2⟩⟩
        | 1, hk, nxt =>
          cases hk
          obtain ⟨g0, g1, g2⟩ := ax1 F'
          exact ⟨rfl, .inr (.inl ⟨_, rfl, x1, dx1, _, rfl, g0, rfl, x1, dx1, l11, l12, us1, us2, _, rfl, g0, g1, g2, by omega, by omega, fun p H2 e2 n2 g2 => nxt p H2 _ rfl e2 n2 g2⟩)⟩
        | 2, hk, nxt =>
          cases hk
          obtain ⟨g0, g1, g2⟩ := ax2 F'
          exact ⟨rfl, .inr (.inr ⟨_, rfl, x2, dx2, _, rfl, g0, rfl, x2, dx2, l21, l22, us1, us2, _, rfl, g0, g1, g2, by omega, by omega, fun p H2 e2 n2 g2 => nxt p H2 _ rfl e2 n2 g2⟩)⟩
        | k + 3, hk, _ => cases hk
      rintro H2 ⟨e2, acc, hacc, hlen, hP⟩
      have hP : Paired (NewL H1 D H2) acc [us1 ++ us2, us1 ++ us2 ++ [.ref pv], us1 ++ us2 ++ [.int (1 + r5)]] := hP
      have hl3 : acc.length = 3 := paired_len hP
      have F2 := F.same e2
      obtain ⟨hd1, hd2⟩ := at1 F2
      -- what is due
      refine ⟨_, rfl, _, rfl, _, rfl, D1, D2, us1, us2, rfl, rfl, hd1, hd2, sl_small (by omega), fun q1 n1 => ?_⟩
      have E1 := Same.new n1 (.lst (us1 ++ us2))
      have k1 : upd H2 q1 (.lst (us1 ++ us2)) q1 = _ := upd_same
      generalize upd H2 q1 (.lst (us1 ++ us2)) = H3 at E1 k1
      refine ⟨_, rfl, _, rfl, D1, D2, us1, us2, rfl, rfl, E1 _ _ hd1, E1 _ _ hd2, sl_small (by omega), fun q2 n2 => ?_⟩
      have E2 := Same.new n2 (.lst (us1 ++ us2))
      have k2 : upd H3 q2 (.lst (us1 ++ us2)) q2 = _ := upd_same
      generalize upd H3 q2 (.lst (us1 ++ us2)) = H4 at E2 k2
      refine ⟨_, rfl, slr rfl, fun w1 nw1 => ?_⟩
      have E3 := Same.new nw1 (.lst [V.ref pv])
      have kw1 : upd H4 w1 (.lst [V.ref pv]) w1 = _ := upd_same
      generalize upd H4 w1 (.lst [V.ref pv]) = H5 at E3 kw1
      refine ⟨q2, w1, us1 ++ us2, _, rfl, rfl, E3 _ _ k2, kw1, sl_small (by rw [List.length_append]; show us1.length + us2.length + 1 ≤ 100000; omega), fun q3 n3 => ?_⟩
      have E4 := Same.new n3 (.lst (us1 ++ us2 ++ [V.ref pv]))
      have k3 : upd H5 q3 (.lst (us1 ++ us2 ++ [V.ref pv])) q3 = _ := upd_same
      generalize upd H5 q3 (.lst (us1 ++ us2 ++ [V.ref pv])) = H6 at E4 k3
      have E14 := E1.trans (E2.trans (E3.trans E4))
      refine ⟨_, rfl, _, rfl, D1, D2, us1, us2, rfl, rfl, E14 _ _ hd1, E14 _ _ hd2, sl_small (by omega), fun q4 n4 => ?_⟩
      have E5 := Same.new n4 (.lst (us1 ++ us2))
      have k4 : upd H6 q4 (.lst (us1 ++ us2)) q4 = _ := upd_same
      generalize upd H6 q4 (.lst (us1 ++ us2)) = H7 at E5 k4
      refine ⟨_, rfl, slr rfl, fun w2 nw2 => ?_⟩
      have E6 := Same.new nw2 (.lst [V.int (1 + r5)])
      have kw2 : upd H7 w2 (.lst [V.int (1 + r5)]) w2 = _ := upd_same
      generalize upd H7 w2 (.lst [V.int (1 + r5)]) = H8 at E6 kw2
      refine ⟨q4, w2, us1 ++ us2, _, rfl, rfl, E6 _ _ k4, kw2, sl_small (by rw [List.length_append]; show us1.length + us2.length + 1 ≤ 100000; omega), fun q5 n5 => ?_⟩
      have E7 := Same.new n5 (.lst (us1 ++ us2 ++ [V.int (1 + r5)]))
      have k5 : upd H8 q5 (.lst (us1 ++ us2 ++ [V.int (1 + r5)])) q5 = _ := upd_same
      generalize upd H8 q5 (.lst (us1 ++ us2 ++ [V.int (1 + r5)])) = H9 at E7 k5
      have E57 := E5.trans (E6.trans E7)
      refine ⟨slr rfl, fun w3 nw3 => ?_⟩
      have E8 := Same.new nw3 (.lst [V.ref q1, V.ref q3, V.ref q5])
      have k6 : upd H9 w3 (.lst [V.ref q1, V.ref q3, V.ref q5]) w3 = _ := upd_same
      generalize upd H9 w3 (.lst [V.ref q1, V.ref q3, V.ref q5]) = H10 at E8 k6
      have E := E14.trans (E57.trans E8)
      have F10 := F2.same E
      have hP10 := paired_imp (fun _ _ z => NewL.mono z E) hP
      have r1 : H10 q1 = some (.lst (us1 ++ us2)) := (E2.trans (E3.trans (E4.trans (E57.trans E8)))) _ _ k1
      have r3 : H10 q3 = some (.lst (us1 ++ us2 ++ [V.ref pv])) := (E57.trans E8) _ _ k3
      have r6 : H10 q5 = some (.lst (us1 ++ us2 ++ [V.int (1 + r5)])) := E8 _ _ k5
      obtain ⟨z1, z2, z3⟩ := eqs (n := 6) F10
      have z12 := paired_app z2 z1
      have due : Paired (EqD K H10 8) acc [V.ref q1, V.ref q3, V.ref q5] := by
        cases hP10 with
        | cons a0 h => cases h with
          | cons a1 h => cases h with
            | cons a2 h => cases h with
              | nil =>
                obtain ⟨p0, rfl, _, _, c0⟩ := a0
                obtain ⟨p1, rfl, _, _, c1⟩ := a1
                obtain ⟨p2, rfl, _, _, c2⟩ := a2
                exact .cons (eqLL c0 r1 z12 (by rw [List.length_append]; omega)) (.cons (eqLL c1 r3 (paired_app (.cons z3 .nil) z12) (by rw [List.length_append, List.length_append]; show us1.length + us2.length + 1 ≤ 100000; omega)) (.cons (eqLL c2 r6 (paired_app (.cons (eqI _) .nil) z12) (by rw [List.length_append, List.length_append]; show us1.length + us2.length + 1 ≤ 100000; omega)) .nil))
      refine ⟨_, _, rfl, eqLL (E _ _ hacc) k6 due (by omega), fun H11 e11 => ⟨_, rfl, iteF ?_⟩⟩
      have F11 := F10.same e11
      have hacc11 := e11 _ _ (E _ _ hacc)
      have hP11 := paired_imp (fun _ _ z => NewL.mono z e11) hP10
      clear r1 r3 r6 z1 z2 z3 z12 due E E1 E2 E3 E4 E5 E6 E7 E8 E14 E57 k1 k2 k3 k4 k5 k6 kw1 kw2 n1 n2 n3 n4 n5 nw1 nw2 nw3 hP10 F10 hd1 hd2 hP hacc F2 e2 e11
      dsimp only [tNext]
      -- what was told is cleared
      refine ⟨_, rfl, D, rfl, ⟨_, SqL.of hacc11⟩, ?_⟩
      have bD := F.bag.ne hD
      refine for_list (xs := acc) (fun j σ H' => Fr b l H' LL RR ∧ H' D = some (.lst acc) ∧ (∀ v ∈ acc, ∃ (p : Addr) (ys : List V), v = .ref p ∧ p ≠ D ∧ H1 p = none ∧ H' p = some (.lst ys)) ∧ ∃ u10 u11 u13 u14 u15 : Option V, σ = [u0, some (.ref b), some (.int (0 + (i : Int))), some (.ref D1), some (.ref D2), some (.ref pv), some (.int (1 + r5)), some (.ref g), some (.ref m), some (.ref S), u10, u11, some (.ref D), u13, u14, u15])
        ⟨F11, hacc11, fun v hv => ?_, _, _, _, _, _, rfl⟩ (fun j σ H' _ h => SqL.of h.2.1) ?_ ?_
      · obtain ⟨k, hk⟩ := List.mem_iff_getElem?.mp hv
        obtain ⟨y, _, p, h1, h2, h3, h4⟩ := paired_at1 hP11 hk
        exact ⟨p, _, h1, h2, h3, h4⟩
      · rintro k v σ H' hk ⟨F', hD', hv, u10, u11, u13, u14, u15, rfl⟩
        obtain ⟨p, ys, rfl, h2, h3, h4⟩ := hv v (List.mem_of_getElem? hk)
        refine ⟨_, rfl, .inl ⟨rfl, _, SqL.of h4⟩, p, ys, rfl, rfl, h4, ?_⟩
        refine ⟨F'.aside h4 (F.fresh h3) (F.bag.ne h3) (F.bag.ne2 h3) _, by rw [upd_ne h2.symm]; exact hD', fun v hv' => ?_, _, _, _, _, _, rfl⟩
        obtain ⟨p', ys', rfl, g2, g3, g4⟩ := hv v hv'
        by_cases e : p' = p
        · subst e
          exact ⟨p', _, rfl, g2, g3, upd_same⟩
        · exact ⟨p', ys', rfl, g2, g3, by rw [upd_ne e]; exact g4⟩
      · rintro σ H' ⟨F', _, _, u10, u11, u13, u14, u15, rfl⟩
        exact ⟨F', _, _, _, _, _, _, rfl⟩
    clear F
    rintro σ H1 ⟨F, u10, u11, u12, u13, u14, u15, rfl⟩
    -- the fields
    refine ⟨_, rfl, S, rfl, ⟨_, SqL.of (at0 F)⟩, ?_⟩
    refine for_list (xs := [V.ref x0, V.ref x1, V.ref x2]) (fun j σ H' => Fr b l H' LL RR ∧ ∃ u10 u11 u12 u13 u14 u15 : Option V, σ = [u0, some (.ref b), some (.int (0 + (i : Int))), some (.ref D1), some (.ref D2), some (.ref pv), some (.int (1 + r5)), some (.ref g), some (.ref m), some (.ref S), u10, u11, u12, u13, u14, u15])
      ⟨F, _, _, _, _, _, _, rfl⟩ (fun j σ H' _ h => SqL.of (at0 h.1)) ?_ ?_
    · clear F
      rintro k v σ H2 hk ⟨F, u10, u11, u12, u13, u14, u15, rfl⟩
      obtain ⟨y, C, dx, fs, la, lb, rfl, hy, cl, n1, n2, f1, f2, ga, gb, ty, kk⟩ : ∃ (y C dx : Addr) (fs : List (Str × V)) (la lb : Addr), v = .ref y ∧ H2 y = some (.ins C dx fs) ∧ Cls K C ∧ NoAttr K C "equal" ∧ NoAttr K C "above" ∧ fs.lookup ("equal" : Str) = some (.ref la) ∧ fs.lookup ("above" : Str) = some (.ref lb) ∧
          H2 la = some (.lst us1) ∧ H2 lb = some (.lst us2) ∧ (∀ {H' : Hp}, H' y = some (.ins C dx fs) → TyX K H' (.ref y) (.ref C)) ∧ PySem.W.kitOne K (.ref C) (.ref O.C_Sheet) = some true := by
        match k, hk with
        | 0, hk =>
          cases hk
          obtain ⟨g0, g1, g2⟩ := ax0 F
          exact ⟨x0, _, dx0, _, l01, l02, rfl, g0, OT.c_Sheet.cl, OT.c_Sheet.no (by decide), OT.c_Sheet.no (by decide), rfl, rfl, g1, g2, OT.c_Sheet.ty, OT.kit_Sheet_Sheet⟩
        | 1, hk =>
          cases hk
          obtain ⟨g0, g1, g2⟩ := ax1 F
          exact ⟨x1, _, dx1, _, l11, l12, rfl, g0, OT.c_Bound.cl, OT.c_Bound.no (by decide), OT.c_Bound.no (by decide), rfl, rfl, g1, g2, OT.c_Bound.ty, OT.kit_Bound_Sheet⟩
        | 2, hk =>
          cases hk
          obtain ⟨g0, g1, g2⟩ := ax2 F
          exact ⟨x2, _, dx2, _, l21, l22, rfl, g0, OT.c_Shut.cl, OT.c_Shut.no (by decide), OT.c_Shut.no (by decide), rfl, rfl, g1, g2, OT.c_Shut.ty, OT.kit_Shut_Sheet⟩
        | k + 3, hk => cases hk
      refine ⟨_, rfl, y, C, dx, fs, _, rfl, hy, cl, n1, f1, _, rfl, y, C, dx, fs, _, rfl, hy, cl, n2, f2, slr rfl, fun w1 nw1 => ?_⟩
      have e1 := Same.new nw1 (.lst [V.ref la, V.ref lb])
      have k1 : upd H2 w1 (.lst [V.ref la, V.ref lb]) w1 = _ := upd_same
      generalize upd H2 w1 (.lst [V.ref la, V.ref lb]) = H3 at e1 k1
      refine ⟨_, rfl, _, rfl, slr rfl, fun w2 nw2 => ?_⟩
      have e2 := Same.new nw2 (.lst [V.ref D1, V.ref D2])
      have F4 := F.same (e1.trans e2)
      obtain ⟨d1, d2⟩ := at1 F4
      obtain ⟨z1, z2, _⟩ := eqs (n := 6) F4
      refine ⟨_, _, rfl, eqLL (e2 _ _ k1) upd_same (.cons (eqLL ((e1.trans e2) _ _ ga) d1 z1 (by omega)) (.cons (eqLL ((e1.trans e2) _ _ gb) d2 z2 (by omega)) .nil)) (by show 2 ≤ 100000; decide), fun H5 e5 => ⟨_, rfl, iteF ?_⟩⟩
      refine ⟨_, rfl, _, _, _, _, _, rfl, .own _, ty (((e1.trans e2).trans e5) _ _ hy), kk, _, rfl, iteF ?_⟩
      exact ⟨F4.same e5, _, _, _, _, _, _, rfl⟩
    clear F
    rintro σ H1 ⟨F, u10, u11, u12, u13, u14, u15, rfl⟩
    obtain ⟨a0, _, _⟩ := ax0 F
    obtain ⟨a1, _, _⟩ := ax1 F
    obtain ⟨a2, _, _⟩ := ax2 F
    have aS := at0 F
    refine ⟨_, rfl, S, _, _, _, rfl, rfl, SqL.of aS, at_of (j := 1) rfl rfl, x1, _, dx1, _, _, rfl, a1, OT.c_Bound.cl, OT.c_Bound.no (by decide), rfl, _, rfl, S, _, _, _, rfl, rfl, SqL.of aS, at_of (j := 2) rfl rfl, x2, _, dx2, _, _, rfl, a2, OT.c_Shut.cl, OT.c_Shut.no (by decide), rfl, slr rfl, fun w1 nw1 => ?_⟩
    have e1 := Same.new nw1 (.lst [V.ref pv, V.int (1 + r5)])
    have k1 : upd H1 w1 (.lst [V.ref pv, V.int (1 + r5)]) w1 = _ := upd_same
    generalize upd H1 w1 (.lst [V.ref pv, V.int (1 + r5)]) = H2 at e1 k1
    refine ⟨_, rfl, _, rfl, slr rfl, fun w2 nw2 => ?_⟩
    have e2 := Same.new nw2 (.lst [V.ref pv, V.int (1 + r5)])
    have F3 := F.same (e1.trans e2)
    obtain ⟨_, _, z3⟩ := eqs (n := 7) F3
    refine ⟨_, _, rfl, eqLL (e2 _ _ k1) upd_same (.cons z3 (.cons (eqI _) .nil)) (by show 2 ≤ 100000; decide), fun H4 e4 => ⟨_, rfl, iteF ?_⟩⟩
    have E := (e1.trans e2).trans e4
    have F := F.same E
    have a0 := E _ _ a0
    have a1 := E _ _ a1
    have a2 := E _ _ a2
    have aS := E _ _ aS
    clear F3 E e1 e2 e4 k1 nw1 nw2 z3
    -- the classes
    dsimp only [tNext]
    refine ⟨_, rfl, S, _, _, _, rfl, rfl, SqL.of aS, at_of (j := 0) rfl rfl, _, _, _, _, _, rfl, .own _, OT.c_Sheet.ty a0, OT.kit_Sheet_Bound, _, rfl, S, _, _, _, rfl, rfl, SqL.of aS, at_of (j := 0) rfl rfl, _, _, _, _, _, rfl, .own _, OT.c_Sheet.ty a0, OT.kit_Sheet_Shut, _, rfl, S, _, _, _, rfl, rfl, SqL.of aS, at_of (j := 1) rfl rfl, _, _, _, _, _, rfl, .own _, OT.c_Bound.ty a1, OT.kit_Bound_Shut, slr rfl, fun kl nk => ?_⟩
    have e5 := Same.new nk (.lst [V.bl false, V.bl false, V.bl false])
    have k5 : upd H4 kl (.lst [V.bl false, V.bl false, V.bl false]) kl = _ := upd_same
    generalize upd H4 kl (.lst [V.bl false, V.bl false, V.bl false]) = H5 at e5 k5
    have F := F.same e5
    have a1 := e5 _ _ a1
    have a2 := e5 _ _ a2
    have aS := e5 _ _ aS
    refine ⟨_, rfl, kl, [false, false, false], rfl, SqL.of k5, _, rfl, iteF ?_⟩
    refine ⟨_, rfl, S, _, _, _, rfl, rfl, SqL.of aS, at_of (j := 2) rfl rfl, _, _, _, _, _, rfl, .own _, OT.c_Shut.ty a2, OT.kit_Shut_Bound, _, rfl, iteF ?_⟩
    refine ⟨_, rfl, S, _, _, _, rfl, rfl, SqL.of aS, at_of (j := 1) rfl rfl, _, _, _, _, _, rfl, .own _, OT.c_Bound.ty a1, OT.kit_Bound_Bound, _, rfl, iteF ?_⟩
    refine ⟨_, rfl, S, _, _, _, rfl, rfl, SqL.of aS, at_of (j := 2) rfl rfl, _, _, _, _, _, rfl, .own _, OT.c_Shut.ty a2, OT.kit_Shut_Shut, _, rfl, iteF ?_⟩
    dsimp only [tNext]
    obtain ⟨d1, d2⟩ := at1 F
    -- a sheet of tuples
    refine ⟨_, rfl, D1, us1, rfl, .inl ⟨SqL.of d1, fun t1 nt1 => ?_⟩⟩
    have e6 := Same.new nt1 (.tup us1)
    have k6 : upd H5 t1 (.tup us1) t1 = _ := upd_same
    generalize upd H5 t1 (.tup us1) = H6 at e6 k6
    refine ⟨_, rfl, D2, us2, rfl, .inl ⟨SqL.of (e6 _ _ d2), fun t2 nt2 => ?_⟩⟩
    have e7 := Same.new nt2 (.tup us2)
    have k7 : upd H6 t2 (.tup us2) t2 = _ := upd_same
    have k6 := e7 _ _ k6
    generalize upd H6 t2 (.tup us2) = H7 at e7 k6 k7
    have F := F.same (e6.trans e7)
    intro y dy n0 nd0 ne0
    have e8 : Same H7 (upd (upd H7 dy (.own y)) y (.ins O.C_Sheet dy [])) := (Same.new nd0 _).trans (Same.new (by rw [upd_ne ne0.symm]; exact n0) _)
    obtain ⟨R1, R2⟩ := tup2 (F.same e8)
    refine ⟨y, _, dy, t1, t2, true, us1, us2, rfl, upd_same, OT.c_Sheet.cl, OT.c_Sheet.no (by decide), OT.c_Sheet.no (by decide), e8 _ _ k6, e8 _ _ k7, R1.tups, R2.tups, by omega, by omega, fun l1 l2 H8 d1 d2 d3 d4 d5 d6 d7 => ⟨rfl, ?_⟩⟩
    have F := (F.made n0 nd0 ne0 d1 d2 d3 d4 d5 d6 d7).tail.tail.tail
    refine ⟨y, dy, _, rfl, d5, rfl, y, dy, l1, l2, us1, us2, rfl, d5, d6, d7, by omega, by omega, fun p H9 e9 np gp => ?_⟩
    have F := F.same e9
    obtain ⟨g1, g2⟩ := at1 F
    obtain ⟨R1, R2⟩ := tup2 F
    refine ⟨_, rfl, _, rfl, D1, D2, us1, us2, rfl, rfl, g1, g2, sl_small (by omega), fun q1 n1 => ?_⟩
    have e10 := Same.new n1 (.lst (us1 ++ us2))
    have RR' : RL (upd H9 q1 (.lst (us1 ++ us2))) (us1 ++ us2) (qs1 ++ qs2) := RL.mono (paired_app R2 R1) e10
    refine ⟨_, _, .lst (SqL.of (e10 _ _ gp)) (dp_rl RR'), .lst (SqL.of upd_same) (dp_rl RR'), shp_fr _, shp_fr _, _, rfl, ?_⟩
    rw [eqv_fr]
    refine iteF ?_
    exact ⟨(F.same e10).bag, _, _, _, _, _, _, _, _, _, _, _, _, _, _, _, rfl⟩
  · rintro σ H4 ⟨_, u0, u2, u3, u4, u5, u6, u7, u8, u9, u10, u11, u12, u13, u14, u15, rfl⟩
    exact q _
end

-- CUT4
theorem all_mk {l : PySem.W.OpenLaw} {w : World} {K : PySem.W.Frag} {h : Heap} {mg : Str → Option Value} {fa f1 f2 f3 f4 f5 f6 f7 f8 : Addr} (X : K.In h) (G : h.Ns mainGlobals mg) (hfa : mg "law" = some (.ref fa))
    {od1 an1 od2 an2 od3 an3 od4 an4 od5 an5 od6 an6 od7 an7 od8 an8 : Option Addr} {sl1 sl2 sl3 sl4 sl5 sl6 sl7 sl8 : Array (Option Value)} {oc1 kV1 dc1 pm1 cd1 ct1 oc2 kV2 dc2 pm2 cd2 ct2 oc3 kV3 dc3 pm3 cd3 ct3 oc4 kV4 dc4 pm4 cd4 ct4 oc5 kV5 dc5 pm5 cd5 ct5 oc6 kV6 dc6 pm6 cd6 ct6 oc7 kV7 dc7 pm7 cd7 ct7 oc8 kV8 dc8 pm8 cd8 ct8 : Value}
    (a1 : PySem.W.nsIn K mainGlobals "_law_bag" = some (some (.ref f1))) (l1 : K.lookup f1 = some ⟨oc1, od1, .func (PySem.W.fnOf "_law_bag" "_law_bag" (defArgs s_bag) (defBody s_bag) (defScope s_bag) .none kV1 dc1 pm1 an1 cd1 ct1), sl1⟩) (c1 : PySem.W.codeIn K cd1 "_law_bag" = true) (k1 : PySem.W.keepIn K (.ref f1) = true)
    (a2 : PySem.W.nsIn K mainGlobals "_law_pull" = some (some (.ref f2))) (l2 : K.lookup f2 = some ⟨oc2, od2, .func (PySem.W.fnOf "_law_pull" "_law_pull" (defArgs s_pull) (defBody s_pull) (defScope s_pull) .none kV2 dc2 pm2 an2 cd2 ct2), sl2⟩) (c2 : PySem.W.codeIn K cd2 "_law_pull" = true) (k2 : PySem.W.keepIn K (.ref f2) = true)
    (a3 : PySem.W.nsIn K mainGlobals "_law_of" = some (some (.ref f3))) (l3 : K.lookup f3 = some ⟨oc3, od3, .func (PySem.W.fnOf "_law_of" "_law_of" (defArgs s_of) (defBody s_of) (defScope s_of) .none kV3 dc3 pm3 an3 cd3 ct3), sl3⟩) (c3 : PySem.W.codeIn K cd3 "_law_of" = true) (k3 : PySem.W.keepIn K (.ref f3) = true)
    (a4 : PySem.W.nsIn K mainGlobals "_law_same" = some (some (.ref f4))) (l4 : K.lookup f4 = some ⟨oc4, od4, .func (PySem.W.fnOf "_law_same" "_law_same" (defArgs s_same) (defBody s_same) (defScope s_same) .none kV4 dc4 pm4 an4 cd4 ct4), sl4⟩) (c4 : PySem.W.codeIn K cd4 "_law_same" = true) (k4 : PySem.W.keepIn K (.ref f4) = true)
    (a5 : PySem.W.nsIn K mainGlobals "_law_gcd" = some (some (.ref f5))) (l5 : K.lookup f5 = some ⟨oc5, od5, .func (PySem.W.fnOf "_law_gcd" "_law_gcd" (defArgs s_gcd) (defBody s_gcd) (defScope s_gcd) .none kV5 dc5 pm5 an5 cd5 ct5), sl5⟩) (c5 : PySem.W.codeIn K cd5 "_law_gcd" = true) (k5 : PySem.W.keepIn K (.ref f5) = true)
    (a6 : PySem.W.nsIn K mainGlobals "_law_low" = some (some (.ref f6))) (l6 : K.lookup f6 = some ⟨oc6, od6, .func (PySem.W.fnOf "_law_low" "_law_low" (defArgs s_low) (defBody s_low) (defScope s_low) .none kV6 dc6 pm6 an6 cd6 ct6), sl6⟩) (c6 : PySem.W.codeIn K cd6 "_law_low" = true) (k6 : PySem.W.keepIn K (.ref f6) = true)
    (a7 : PySem.W.nsIn K mainGlobals "_law_ratio" = some (some (.ref f7))) (l7 : K.lookup f7 = some ⟨oc7, od7, .func (PySem.W.fnOf "_law_ratio" "_law_ratio" (defArgs s_ratio) (defBody s_ratio) (defScope s_ratio) .none kV7 dc7 pm7 an7 cd7 ct7), sl7⟩) (c7 : PySem.W.codeIn K cd7 "_law_ratio" = true) (k7 : PySem.W.keepIn K (.ref f7) = true)
    (a8 : PySem.W.nsIn K mainGlobals "law" = some (some (.ref f8))) (l8 : K.lookup f8 = some ⟨oc8, od8, .func (PySem.W.fnOf "law" "law" (defArgs s_law) (defBody s_law) (defScope s_law) .none kV8 dc8 pm8 an8 cd8 ct8), sl8⟩) (c8 : PySem.W.codeIn K cd8 "law" = true) (k8 : PySem.W.keepIn K (.ref f8) = true)
    (z_abs : PySem.W.nsIn K mainGlobals "abs" = some none) (z_all : PySem.W.nsIn K mainGlobals "all" = some none) (z_any : PySem.W.nsIn K mainGlobals "any" = some none) (z_bool : PySem.W.nsIn K mainGlobals "bool" = some none) (z_int : PySem.W.nsIn K mainGlobals "int" = some none) (z_isinstance : PySem.W.nsIn K mainGlobals "isinstance" = some none) (z_len : PySem.W.nsIn K mainGlobals "len" = some none) (z_list : PySem.W.nsIn K mainGlobals "list" = some none) (z_range : PySem.W.nsIn K mainGlobals "range" = some none) (z_str : PySem.W.nsIn K mainGlobals "str" = some none) (z_tuple : PySem.W.nsIn K mainGlobals "tuple" = some none)
    {C0 : Addr} (y_g0 : PySem.W.nsIn K mainGlobals "Sheet" = some (some (.ref C0))) (y_b0 : ownB K C0 ["equal", "above"] = true)
    {g0_0 : Addr} {yoc0_0 ykV0_0 ydc0_0 ypm0_0 ycd0_0 yct0_0 : Value} {yod0_0 yan0_0 : Option Addr} {ysl0_0 : Array (Option Value)} (y_m0_0 : PySem.W.findIn K (.ref C0) "__init__" = some (some (.ref g0_0)))
    (y_l0_0 : K.lookup g0_0 = some ⟨yoc0_0, yod0_0, .func (PySem.W.fnOf "__init__" "Sheet.__init__" (defArgs s_Sheet___init__) (defBody s_Sheet___init__) (defScope s_Sheet___init__) .none ykV0_0 ydc0_0 ypm0_0 yan0_0 ycd0_0 yct0_0), ysl0_0⟩) (y_c0_0 : PySem.W.codeIn K ycd0_0 "Sheet.__init__" = true) (y_k0_0 : PySem.W.keepIn K (.ref g0_0) = true) (y_f0_0 : PySem.W.isFn K (.ref g0_0) = true)
    {g0_1 : Addr} {yoc0_1 ykV0_1 ydc0_1 ypm0_1 ycd0_1 yct0_1 : Value} {yod0_1 yan0_1 : Option Addr} {ysl0_1 : Array (Option Value)} (y_m0_1 : PySem.W.findIn K (.ref C0) "numbers" = some (some (.ref g0_1)))
    (y_l0_1 : K.lookup g0_1 = some ⟨yoc0_1, yod0_1, .func (PySem.W.fnOf "numbers" "Sheet.numbers" (defArgs s_Sheet_numbers) (defBody s_Sheet_numbers) (defScope s_Sheet_numbers) .none ykV0_1 ydc0_1 ypm0_1 yan0_1 ycd0_1 yct0_1), ysl0_1⟩) (y_c0_1 : PySem.W.codeIn K ycd0_1 "Sheet.numbers" = true) (y_k0_1 : PySem.W.keepIn K (.ref g0_1) = true) (y_f0_1 : PySem.W.isFn K (.ref g0_1) = true)
    (y_r0 : PySem.W.readsIn K C0 (.type "type") = true) (y_s0 : PySem.W.specialIn K (.ref C0) "__getattribute__" = some (some (.builtin "type.__getattribute__"))) (y_v0 : PySem.W.findCls K (.ref C0) (.type "type") "__init__" = some (.val (.ref g0_0)))
    {C1 : Addr} (y_g1 : PySem.W.nsIn K mainGlobals "Bound" = some (some (.ref C1))) (y_b1 : ownB K C1 ["equal", "above", "value"] = true)
    {g1_0 : Addr} {yoc1_0 ykV1_0 ydc1_0 ypm1_0 ycd1_0 yct1_0 : Value} {yod1_0 yan1_0 : Option Addr} {ysl1_0 : Array (Option Value)} (y_m1_0 : PySem.W.findIn K (.ref C1) "__init__" = some (some (.ref g1_0)))
    (y_l1_0 : K.lookup g1_0 = some ⟨yoc1_0, yod1_0, .func (PySem.W.fnOf "__init__" "Bound.__init__" (defArgs s_Bound___init__) (defBody s_Bound___init__) (defScope s_Bound___init__) .none ykV1_0 ydc1_0 ypm1_0 yan1_0 ycd1_0 yct1_0), ysl1_0⟩) (y_c1_0 : PySem.W.codeIn K ycd1_0 "Bound.__init__" = true) (y_k1_0 : PySem.W.keepIn K (.ref g1_0) = true) (y_f1_0 : PySem.W.isFn K (.ref g1_0) = true)
    {g1_1 : Addr} {yoc1_1 ykV1_1 ydc1_1 ypm1_1 ycd1_1 yct1_1 : Value} {yod1_1 yan1_1 : Option Addr} {ysl1_1 : Array (Option Value)} (y_m1_1 : PySem.W.findIn K (.ref C1) "numbers" = some (some (.ref g1_1)))
    (y_l1_1 : K.lookup g1_1 = some ⟨yoc1_1, yod1_1, .func (PySem.W.fnOf "numbers" "Bound.numbers" (defArgs s_Bound_numbers) (defBody s_Bound_numbers) (defScope s_Bound_numbers) .none ykV1_1 ydc1_1 ypm1_1 yan1_1 ycd1_1 yct1_1), ysl1_1⟩) (y_c1_1 : PySem.W.codeIn K ycd1_1 "Bound.numbers" = true) (y_k1_1 : PySem.W.keepIn K (.ref g1_1) = true) (y_f1_1 : PySem.W.isFn K (.ref g1_1) = true)
    {C2 : Addr} (y_g2 : PySem.W.nsIn K mainGlobals "Shut" = some (some (.ref C2))) (y_b2 : ownB K C2 ["equal", "above", "player"] = true)
    {g2_0 : Addr} {yoc2_0 ykV2_0 ydc2_0 ypm2_0 ycd2_0 yct2_0 : Value} {yod2_0 yan2_0 : Option Addr} {ysl2_0 : Array (Option Value)} (y_m2_0 : PySem.W.findIn K (.ref C2) "__init__" = some (some (.ref g2_0)))
    (y_l2_0 : K.lookup g2_0 = some ⟨yoc2_0, yod2_0, .func (PySem.W.fnOf "__init__" "Shut.__init__" (defArgs s_Shut___init__) (defBody s_Shut___init__) (defScope s_Shut___init__) .none ykV2_0 ydc2_0 ypm2_0 yan2_0 ycd2_0 yct2_0), ysl2_0⟩) (y_c2_0 : PySem.W.codeIn K ycd2_0 "Shut.__init__" = true) (y_k2_0 : PySem.W.keepIn K (.ref g2_0) = true) (y_f2_0 : PySem.W.isFn K (.ref g2_0) = true)
    {g2_1 : Addr} {yoc2_1 ykV2_1 ydc2_1 ypm2_1 ycd2_1 yct2_1 : Value} {yod2_1 yan2_1 : Option Addr} {ysl2_1 : Array (Option Value)} (y_m2_1 : PySem.W.findIn K (.ref C2) "numbers" = some (some (.ref g2_1)))
    (y_l2_1 : K.lookup g2_1 = some ⟨yoc2_1, yod2_1, .func (PySem.W.fnOf "numbers" "Shut.numbers" (defArgs s_Shut_numbers) (defBody s_Shut_numbers) (defScope s_Shut_numbers) .none ykV2_1 ydc2_1 ypm2_1 yan2_1 ycd2_1 yct2_1), ysl2_1⟩) (y_c2_1 : PySem.W.codeIn K ycd2_1 "Shut.numbers" = true) (y_k2_1 : PySem.W.keepIn K (.ref g2_1) = true) (y_f2_1 : PySem.W.isFn K (.ref g2_1) = true)
    (y_k0x0 : PySem.W.kitOne K (.ref C0) (.ref C0) = some true)
    (y_k0x1 : PySem.W.kitOne K (.ref C0) (.ref C1) = some false)
    (y_k0x2 : PySem.W.kitOne K (.ref C0) (.ref C2) = some false)
    (y_k1x0 : PySem.W.kitOne K (.ref C1) (.ref C0) = some true)
    (y_k1x1 : PySem.W.kitOne K (.ref C1) (.ref C1) = some true)
    (y_k1x2 : PySem.W.kitOne K (.ref C1) (.ref C2) = some false)
    (y_k2x0 : PySem.W.kitOne K (.ref C2) (.ref C0) = some true)
    (y_k2x1 : PySem.W.kitOne K (.ref C2) (.ref C1) = some false)
    (y_k2x2 : PySem.W.kitOne K (.ref C2) (.ref C2) = some true) :
    ∃ fd : FuncData, (∀ (s : Shared) (v : Value), BindsTo s fd ⟨[v], []⟩ [("_law_script", v)]) ∧ ∀ base : Heap, K.In base → base.Ns mainGlobals mg → FnOk l.prog w K mg base CX0 20 fa fd ["_law_script"] (spLaw K) := by
  have e := hfa.symm.trans (PySem.W.mg_of X G a8)
  cases e
  have F1 := fun_mk (st := s_bag) l1 c1 k1
  have b1 := F1.binds (ps := ["_law_script"]) fun _ _ _ _ _ _ us hl => match us, hl with | [_], _ => rfl
  have F2 := fun_mk (st := s_pull) l2 c2 k2
  have b2 := F2.binds (ps := ["_law_bag_here", "_law_many"]) fun _ _ _ _ _ _ us hl => match us, hl with | [_, _], _ => rfl
  have F3 := fun_mk (st := s_of) l3 c3 k3
  have b3 := F3.binds (ps := ["_law_bag_here", "_law_some"]) fun _ _ _ _ _ _ us hl => match us, hl with | [_, _], _ => rfl
  have F4 := fun_mk (st := s_same) l4 c4 k4
  have b4 := F4.binds (ps := ["_law_found", "_law_due"]) fun _ _ _ _ _ _ us hl => match us, hl with | [_, _], _ => rfl
  have F5 := fun_mk (st := s_gcd) l5 c5 k5
  have b5 := F5.binds (ps := ["_law_a", "_law_b"]) fun _ _ _ _ _ _ us hl => match us, hl with | [_, _], _ => rfl
  have F6 := fun_mk (st := s_low) l6 c6 k6
  have b6 := F6.binds (ps := ["_law_a", "_law_b"]) fun _ _ _ _ _ _ us hl => match us, hl with | [_, _], _ => rfl
  have F7 := fun_mk (st := s_ratio) l7 c7 k7
  have b7 := F7.binds (ps := ["_law_bag_here", "_law_most"]) fun _ _ _ _ _ _ us hl => match us, hl with | [_, _], _ => rfl
  have F8 := fun_mk (st := s_law) l8 c8 k8
  have b8 := F8.binds (ps := ["_law_script"]) fun _ _ _ _ _ _ us hl => match us, hl with | [_], _ => rfl
  have T : Txt K mg ⟨f1, PySem.W.fnOf "_law_bag" "_law_bag" (defArgs s_bag) (defBody s_bag) (defScope s_bag) .none kV1 dc1 pm1 an1 cd1 ct1, f2, PySem.W.fnOf "_law_pull" "_law_pull" (defArgs s_pull) (defBody s_pull) (defScope s_pull) .none kV2 dc2 pm2 an2 cd2 ct2, f3, PySem.W.fnOf "_law_of" "_law_of" (defArgs s_of) (defBody s_of) (defScope s_of) .none kV3 dc3 pm3 an3 cd3 ct3, f4, PySem.W.fnOf "_law_same" "_law_same" (defArgs s_same) (defBody s_same) (defScope s_same) .none kV4 dc4 pm4 an4 cd4 ct4, f5, PySem.W.fnOf "_law_gcd" "_law_gcd" (defArgs s_gcd) (defBody s_gcd) (defScope s_gcd) .none kV5 dc5 pm5 an5 cd5 ct5, f6, PySem.W.fnOf "_law_low" "_law_low" (defArgs s_low) (defBody s_low) (defScope s_low) .none kV6 dc6 pm6 an6 cd6 ct6, f7, PySem.W.fnOf "_law_ratio" "_law_ratio" (defArgs s_ratio) (defBody s_ratio) (defScope s_ratio) .none kV7 dc7 pm7 an7 cd7 ct7, fa, PySem.W.fnOf "law" "law" (defArgs s_law) (defBody s_law) (defScope s_law) .none kV8 dc8 pm8 an8 cd8 ct8⟩ := ⟨⟨F1, PySem.W.mg_of X G a1, b1⟩, ⟨F2, PySem.W.mg_of X G a2, b2⟩, ⟨F3, PySem.W.mg_of X G a3, b3⟩, ⟨F4, PySem.W.mg_of X G a4, b4⟩, ⟨F5, PySem.W.mg_of X G a5, b5⟩, ⟨F6, PySem.W.mg_of X G a6, b6⟩, ⟨F7, PySem.W.mg_of X G a7, b7⟩, ⟨F8, PySem.W.mg_of X G a8, b8⟩, PySem.W.mg_none_of X G z_abs, PySem.W.mg_none_of X G z_all, PySem.W.mg_none_of X G z_any, PySem.W.mg_none_of X G z_bool, PySem.W.mg_none_of X G z_int, PySem.W.mg_none_of X G z_isinstance, PySem.W.mg_none_of X G z_len, PySem.W.mg_none_of X G z_list, PySem.W.mg_none_of X G z_range, PySem.W.mg_none_of X G z_str, PySem.W.mg_none_of X G z_tuple⟩
  have Y0_0 := fun_mk (st := s_Sheet___init__) y_l0_0 y_c0_0 y_k0_0
  have yb0_0 := Y0_0.binds (ps := ["self", "equal", "above"]) fun _ _ _ _ _ _ us hl => match us, hl with | [_, _, _], _ => rfl
  have Y0_1 := fun_mk (st := s_Sheet_numbers) y_l0_1 y_c0_1 y_k0_1
  have yb0_1 := Y0_1.binds (ps := ["self"]) fun _ _ _ _ _ _ us hl => match us, hl with | [_], _ => rfl
  have Y1_0 := fun_mk (st := s_Bound___init__) y_l1_0 y_c1_0 y_k1_0
  have yb1_0 := Y1_0.binds (ps := ["self", "equal", "above", "value"]) fun _ _ _ _ _ _ us hl => match us, hl with | [_, _, _, _], _ => rfl
  have Y1_1 := fun_mk (st := s_Bound_numbers) y_l1_1 y_c1_1 y_k1_1
  have yb1_1 := Y1_1.binds (ps := ["self"]) fun _ _ _ _ _ _ us hl => match us, hl with | [_], _ => rfl
  have Y2_0 := fun_mk (st := s_Shut___init__) y_l2_0 y_c2_0 y_k2_0
  have yb2_0 := Y2_0.binds (ps := ["self", "equal", "above", "player"]) fun _ _ _ _ _ _ us hl => match us, hl with | [_, _, _, _], _ => rfl
  have Y2_1 := fun_mk (st := s_Shut_numbers) y_l2_1 y_c2_1 y_k2_1
  have yb2_1 := Y2_1.binds (ps := ["self"]) fun _ _ _ _ _ _ us hl => match us, hl with | [_], _ => rfl
  have OT : OwT K mg ⟨C0, g0_0, PySem.W.fnOf "__init__" "Sheet.__init__" (defArgs s_Sheet___init__) (defBody s_Sheet___init__) (defScope s_Sheet___init__) .none ykV0_0 ydc0_0 ypm0_0 yan0_0 ycd0_0 yct0_0, g0_1, PySem.W.fnOf "numbers" "Sheet.numbers" (defArgs s_Sheet_numbers) (defBody s_Sheet_numbers) (defScope s_Sheet_numbers) .none ykV0_1 ydc0_1 ypm0_1 yan0_1 ycd0_1 yct0_1, C1, g1_0, PySem.W.fnOf "__init__" "Bound.__init__" (defArgs s_Bound___init__) (defBody s_Bound___init__) (defScope s_Bound___init__) .none ykV1_0 ydc1_0 ypm1_0 yan1_0 ycd1_0 yct1_0, g1_1, PySem.W.fnOf "numbers" "Bound.numbers" (defArgs s_Bound_numbers) (defBody s_Bound_numbers) (defScope s_Bound_numbers) .none ykV1_1 ydc1_1 ypm1_1 yan1_1 ycd1_1 yct1_1, C2, g2_0, PySem.W.fnOf "__init__" "Shut.__init__" (defArgs s_Shut___init__) (defBody s_Shut___init__) (defScope s_Shut___init__) .none ykV2_0 ydc2_0 ypm2_0 yan2_0 ycd2_0 yct2_0, g2_1, PySem.W.fnOf "numbers" "Shut.numbers" (defArgs s_Shut_numbers) (defBody s_Shut_numbers) (defScope s_Shut_numbers) .none ykV2_1 ydc2_1 ypm2_1 yan2_1 ycd2_1 yct2_1⟩ := ⟨owc_mk (PySem.W.mg_of X G y_g0) y_b0, ⟨Y0_0, yb0_0, ⟨y_m0_0, y_f0_0, y_k0_0⟩⟩, ⟨Y0_1, yb0_1, ⟨y_m0_1, y_f0_1, y_k0_1⟩⟩, ⟨y_r0, y_s0⟩, ⟨y_v0, rfl⟩, y_k0x0, y_k0x1, y_k0x2, owc_mk (PySem.W.mg_of X G y_g1) y_b1, ⟨Y1_0, yb1_0, ⟨y_m1_0, y_f1_0, y_k1_0⟩⟩, ⟨Y1_1, yb1_1, ⟨y_m1_1, y_f1_1, y_k1_1⟩⟩, y_k1x0, y_k1x1, y_k1x2, owc_mk (PySem.W.mg_of X G y_g2) y_b2, ⟨Y2_0, yb2_0, ⟨y_m2_0, y_f2_0, y_k2_0⟩⟩, ⟨Y2_1, yb2_1, ⟨y_m2_1, y_f2_1, y_k2_1⟩⟩, y_k2x0, y_k2x1, y_k2x2⟩
  exact ⟨PySem.W.fnOf "law" "law" (defArgs s_law) (defBody s_law) (defScope s_law) .none kV8 dc8 pm8 an8 cd8 ct8, fun s v => .of_eq rfl, fun base _ _ => ok_law T OT⟩
theorem walk {l : PySem.W.OpenLaw} {q : Program} {loose : List Str} {XP : (Str → Option Value) → Heap → Prop} {YP : World → Heap → Prop} {d : DefRec} {K : Params → PySem.W.Frag} (hn : l.most = some 63) (hdf : d.params.defaults = [])
    (hY : ∀ (w : World) (h : Heap), YP w h → (K w.params).In h)
    (F : ∀ (w : World) (mg : Str → Option Value) (fa : Addr) (h : Heap), (K w.params).In h → h.Ns mainGlobals mg → mg d.name = some (.ref fa) →
      ∃ fd : FuncData, (∀ (s : Shared) (u : Value), BindsTo s fd ⟨[u], []⟩ [("_law_script", u)]) ∧ ∀ base : Heap, (K w.params).In base → base.Ns mainGlobals mg → FnOk l.prog w (K w.params) mg base CX0 20 fa fd ["_law_script"] (spLaw (K w.params))) :
    PySem.W.WalkO q loose XP YP l.row.toRowW d [] (fun f vs => PySem.call f vs) :=
  L2.walk_of (n := 63) (k := 20) (x := "_law_script") (CX := fun _ => CX0) (sp := fun w => spLaw (K w.params)) hn (by decide) hdf ⟨rfl, by decide, by decide⟩ hY F (fun _ _ a ns hl _ hS => ⟨a, ns, rfl, hS, hl, fun _ => rfl⟩) fun _ _ _ _ _ z => z
end Toy
open PySem PySem.W PyProof.Rows in
set_option maxRecDepth 100000 in
set_option maxHeartbeats 0 in
theorem PySem.Challenge.cw_graincourse_k19_sheets_as_objects_holds : PySem.Challenge.rw_graincourse_k19_sheets_as_objects.Holds := by
  w_on; o_law; k_head; (case hw => w_witness2)
  k_fill
  refine Toy.walk (l := PySem.Challenge.rw_graincourse_k19_sheets_as_objects) rfl rfl (fun w h Y => PySem.W.kIn_of Y) ?F
  case F =>
    intro w mg fa h KX G hmg
    refine' Toy.all_mk KX G hmg ?a1 ?l1 ?c1 ?k1 ?a2 ?l2 ?c2 ?k2 ?a3 ?l3 ?c3 ?k3 ?a4 ?l4 ?c4 ?k4 ?a5 ?l5 ?c5 ?k5 ?a6 ?l6 ?c6 ?k6 ?a7 ?l7 ?c7 ?k7 ?a8 ?l8 ?c8 ?k8 ?z_abs ?z_all ?z_any ?z_bool ?z_int ?z_isinstance ?z_len ?z_list ?z_range ?z_str ?z_tuple ?y_g0 ?y_b0 ?y_m0_0 ?y_l0_0 ?y_c0_0 ?y_k0_0 ?y_f0_0 ?y_m0_1 ?y_l0_1 ?y_c0_1 ?y_k0_1 ?y_f0_1 ?y_r0 ?y_s0 ?y_v0 ?y_g1 ?y_b1 ?y_m1_0 ?y_l1_0 ?y_c1_0 ?y_k1_0 ?y_f1_0 ?y_m1_1 ?y_l1_1 ?y_c1_1 ?y_k1_1 ?y_f1_1 ?y_g2 ?y_b2 ?y_m2_0 ?y_l2_0 ?y_c2_0 ?y_k2_0 ?y_f2_0 ?y_m2_1 ?y_l2_1 ?y_c2_1 ?y_k2_1 ?y_f2_1 ?y_k0x0 ?y_k0x1 ?y_k0x2 ?y_k1x0 ?y_k1x1 ?y_k1x2 ?y_k2x0 ?y_k2x1 ?y_k2x2
    (case a1 => k_is)
    (case l1 => k_is)
    (case c1 => k_is)
    (case k1 => k_is)
    (case a2 => k_is)
    (case l2 => k_is)
    (case c2 => k_is)
    (case k2 => k_is)
    (case a3 => k_is)
    (case l3 => k_is)
    (case c3 => k_is)
    (case k3 => k_is)
    (case a4 => k_is)
    (case l4 => k_is)
    (case c4 => k_is)
    (case k4 => k_is)
    (case a5 => k_is)
    (case l5 => k_is)
    (case c5 => k_is)
    (case k5 => k_is)
    (case a6 => k_is)
    (case l6 => k_is)
    (case c6 => k_is)
    (case k6 => k_is)
    (case a7 => k_is)
    (case l7 => k_is)
    (case c7 => k_is)
    (case k7 => k_is)
    (case a8 => k_is)
    (case l8 => k_is)
    (case c8 => k_is)
    (case k8 => k_is)
    (case z_abs => k_is)
    (case z_all => k_is)
    (case z_any => k_is)
    (case z_bool => k_is)
    (case z_int => k_is)
    (case z_isinstance => k_is)
    (case z_len => k_is)
    (case z_list => k_is)
    (case z_range => k_is)
    (case z_str => k_is)
    (case z_tuple => k_is)
    (case y_g0 => k_is)
    (case y_b0 => first | kernel_rfl | k_is)
    (case y_m0_0 => k_is)
    (case y_l0_0 => k_is)
    (case y_c0_0 => k_is)
    (case y_k0_0 => k_is)
    (case y_f0_0 => first | kernel_rfl | k_is)
    (case y_m0_1 => k_is)
    (case y_l0_1 => k_is)
    (case y_c0_1 => k_is)
    (case y_k0_1 => k_is)
    (case y_f0_1 => first | kernel_rfl | k_is)
    (case y_r0 => k_is)
    (case y_s0 => k_is)
    (case y_v0 => k_is)
    (case y_g1 => k_is)
    (case y_b1 => first | kernel_rfl | k_is)
    (case y_m1_0 => k_is)
    (case y_l1_0 => k_is)
    (case y_c1_0 => k_is)
    (case y_k1_0 => k_is)
    (case y_f1_0 => first | kernel_rfl | k_is)
    (case y_m1_1 => k_is)
    (case y_l1_1 => k_is)
    (case y_c1_1 => k_is)
    (case y_k1_1 => k_is)
    (case y_f1_1 => first | kernel_rfl | k_is)
    (case y_g2 => k_is)
    (case y_b2 => first | kernel_rfl | k_is)
    (case y_m2_0 => k_is)
    (case y_l2_0 => k_is)
    (case y_c2_0 => k_is)
    (case y_k2_0 => k_is)
    (case y_f2_0 => first | kernel_rfl | k_is)
    (case y_m2_1 => k_is)
    (case y_l2_1 => k_is)
    (case y_c2_1 => k_is)
    (case y_k2_1 => k_is)
    (case y_f2_1 => first | kernel_rfl | k_is)
    (case y_k0x0 => first | kernel_rfl | k_is)
    (case y_k0x1 => first | kernel_rfl | k_is)
    (case y_k0x2 => first | kernel_rfl | k_is)
    (case y_k1x0 => first | kernel_rfl | k_is)
    (case y_k1x1 => first | kernel_rfl | k_is)
    (case y_k1x2 => first | kernel_rfl | k_is)
    (case y_k2x0 => first | kernel_rfl | k_is)
    (case y_k2x1 => first | kernel_rfl | k_is)
    (case y_k2x2 => first | kernel_rfl | k_is)


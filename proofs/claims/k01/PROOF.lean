import PyProof.Rows.All
import Wide.All
import OpenK.AllK
import Wide.FinOn
import HandS.Base
import HandS.Call
import HandS.List
import HandS.Comp
import HandS.Ends
import HandS.Dict
import HandS.Iter
import HandS.Text
import HandS.Words
import HandS.WordsExc
import HandS.WordsList
import HandS.Wide
import HandS.IsInst
import HandS.More
import HandS.Star
import HandS.Flow
import HandS.NoneIn
import HandS.WideBits
import HandS.StrMore
import HandS.ExcValue
import HandS.RevTup
import HandS.Rev
import HandS.MapObj
import HandS.FStr
import HandS.Steps
import HandS.Strs
import HandS.Codes
import HandS.Exc
import HandS.ExcOwn
import HandS.ExcInit
import HandS.ExcInitHot
import HandS.ExcField
import HandS.ExcIs
import HandS.ClsMeth
import HandS.HotCalls
import HandS.Lambda
import HandS.EndTab
import HandS.Defaults
import KE.KTryMore
import KE.KExcIs
import HandS.ListEq
import PySem.Challenge.RW_graincourse_k01_error_classes
set_option Elab.async false
set_option maxRecDepth 100000
set_option exponentiation.threshold 100000
set_option linter.all false

namespace Toy
open PySem L2
def top (i : Nat) : Stmt := PySem.Challenge.pw_graincourse_k01_error_classes.main.body.getD i (.Pass ⟨0, 0, 0, 0⟩)
abbrev s_GrainError___init__ : Stmt := inClass (top 1) 0
abbrev s_MissingError___init__ : Stmt := inClass (top 2) 0
abbrev s_InvalidFraction___init__ : Stmt := inClass (top 3) 0
abbrev s_InvalidStatement___init__ : Stmt := inClass (top 4) 0
abbrev s_TooLarge___init__ : Stmt := inClass (top 5) 0
abbrev s_UnknownPlayer___init__ : Stmt := inClass (top 6) 0
abbrev s_DuplicatePiece___init__ : Stmt := inClass (top 7) 0
abbrev s_InvalidWeights___init__ : Stmt := inClass (top 8) 0
abbrev s_InvalidWorths___init__ : Stmt := inClass (top 9) 0
abbrev s_InvalidAnswer___init__ : Stmt := inClass (top 10) 0
abbrev s_BrokenRule___init__ : Stmt := inClass (top 11) 0
abbrev s_NothingExpected___init__ : Stmt := inClass (top 12) 0
abbrev s_NothingLeft___init__ : Stmt := inClass (top 13) 0
abbrev s_ParseError___init__ : Stmt := inClass (top 14) 0
abbrev s_InvalidName___init__ : Stmt := inClass (top 15) 0
abbrev s_InUse___init__ : Stmt := inClass (top 16) 0
abbrev s_Cycle___init__ : Stmt := inClass (top 17) 0
abbrev s_Unfit___init__ : Stmt := inClass (top 18) 0
abbrev s_InvalidCommand___init__ : Stmt := inClass (top 19) 0
abbrev s_InvalidDocument___init__ : Stmt := inClass (top 20) 0
abbrev s_UnknownPiece___init__ : Stmt := inClass (top 21) 0
abbrev s_UnknownName___init__ : Stmt := inClass (top 22) 0
abbrev s_bag : Stmt := top 24
abbrev s_pull : Stmt := top 25
abbrev s_of : Stmt := top 26
abbrev s_same : Stmt := top 27
abbrev s_field : Stmt := top 28
abbrev s_bases : Stmt := top 29
abbrev s_kinds : Stmt := top 30
abbrev s_law : Stmt := top 31
theorem sc_GrainError___init__ : FnScope ["self", "word", "message"] ["self", "word", "message"] (defScope s_GrainError___init__) := ⟨rfl, rfl, rfl, by decide +kernel, rfl, by decide +kernel, by decide +kernel⟩
theorem sc_MissingError___init__ : FnScope ["self", "word", "message"] ["self", "word", "message"] (defScope s_MissingError___init__) := ⟨rfl, rfl, rfl, by decide +kernel, rfl, by decide +kernel, by decide +kernel⟩
theorem sc_InvalidFraction___init__ : FnScope ["self"] ["self"] (defScope s_InvalidFraction___init__) := ⟨rfl, rfl, rfl, by decide +kernel, rfl, by decide +kernel, by decide +kernel⟩
theorem sc_InvalidStatement___init__ : FnScope ["self", "place"] ["self", "place"] (defScope s_InvalidStatement___init__) := ⟨rfl, rfl, rfl, by decide +kernel, rfl, by decide +kernel, by decide +kernel⟩
theorem sc_TooLarge___init__ : FnScope ["self", "limit"] ["self", "limit"] (defScope s_TooLarge___init__) := ⟨rfl, rfl, rfl, by decide +kernel, rfl, by decide +kernel, by decide +kernel⟩
theorem sc_UnknownPlayer___init__ : FnScope ["self", "player"] ["self", "player"] (defScope s_UnknownPlayer___init__) := ⟨rfl, rfl, rfl, by decide +kernel, rfl, by decide +kernel, by decide +kernel⟩
theorem sc_DuplicatePiece___init__ : FnScope ["self", "name"] ["self", "name"] (defScope s_DuplicatePiece___init__) := ⟨rfl, rfl, rfl, by decide +kernel, rfl, by decide +kernel, by decide +kernel⟩
theorem sc_InvalidWeights___init__ : FnScope ["self"] ["self"] (defScope s_InvalidWeights___init__) := ⟨rfl, rfl, rfl, by decide +kernel, rfl, by decide +kernel, by decide +kernel⟩
theorem sc_InvalidWorths___init__ : FnScope ["self"] ["self"] (defScope s_InvalidWorths___init__) := ⟨rfl, rfl, rfl, by decide +kernel, rfl, by decide +kernel, by decide +kernel⟩
theorem sc_InvalidAnswer___init__ : FnScope ["self"] ["self"] (defScope s_InvalidAnswer___init__) := ⟨rfl, rfl, rfl, by decide +kernel, rfl, by decide +kernel, by decide +kernel⟩
theorem sc_BrokenRule___init__ : FnScope ["self", "player"] ["self", "player"] (defScope s_BrokenRule___init__) := ⟨rfl, rfl, rfl, by decide +kernel, rfl, by decide +kernel, by decide +kernel⟩
theorem sc_NothingExpected___init__ : FnScope ["self"] ["self"] (defScope s_NothingExpected___init__) := ⟨rfl, rfl, rfl, by decide +kernel, rfl, by decide +kernel, by decide +kernel⟩
theorem sc_NothingLeft___init__ : FnScope ["self"] ["self"] (defScope s_NothingLeft___init__) := ⟨rfl, rfl, rfl, by decide +kernel, rfl, by decide +kernel, by decide +kernel⟩
theorem sc_ParseError___init__ : FnScope ["self", "place"] ["self", "place"] (defScope s_ParseError___init__) := ⟨rfl, rfl, rfl, by decide +kernel, rfl, by decide +kernel, by decide +kernel⟩
theorem sc_InvalidName___init__ : FnScope ["self", "name"] ["self", "name"] (defScope s_InvalidName___init__) := ⟨rfl, rfl, rfl, by decide +kernel, rfl, by decide +kernel, by decide +kernel⟩
theorem sc_InUse___init__ : FnScope ["self", "name"] ["self", "name"] (defScope s_InUse___init__) := ⟨rfl, rfl, rfl, by decide +kernel, rfl, by decide +kernel, by decide +kernel⟩
theorem sc_Cycle___init__ : FnScope ["self", "name"] ["self", "name"] (defScope s_Cycle___init__) := ⟨rfl, rfl, rfl, by decide +kernel, rfl, by decide +kernel, by decide +kernel⟩
theorem sc_Unfit___init__ : FnScope ["self", "name"] ["self", "name"] (defScope s_Unfit___init__) := ⟨rfl, rfl, rfl, by decide +kernel, rfl, by decide +kernel, by decide +kernel⟩
theorem sc_InvalidCommand___init__ : FnScope ["self", "index"] ["self", "index"] (defScope s_InvalidCommand___init__) := ⟨rfl, rfl, rfl, by decide +kernel, rfl, by decide +kernel, by decide +kernel⟩
theorem sc_InvalidDocument___init__ : FnScope ["self", "row"] ["self", "row"] (defScope s_InvalidDocument___init__) := ⟨rfl, rfl, rfl, by decide +kernel, rfl, by decide +kernel, by decide +kernel⟩
theorem sc_UnknownPiece___init__ : FnScope ["self", "name"] ["self", "name"] (defScope s_UnknownPiece___init__) := ⟨rfl, rfl, rfl, by decide +kernel, rfl, by decide +kernel, by decide +kernel⟩
theorem sc_UnknownName___init__ : FnScope ["self", "name"] ["self", "name"] (defScope s_UnknownName___init__) := ⟨rfl, rfl, rfl, by decide +kernel, rfl, by decide +kernel, by decide +kernel⟩
theorem sc_bag : FnScope ["_law_script", "_law_salt", "_law_cell"] ["_law_script"] (defScope s_bag) := ⟨rfl, rfl, rfl, by decide +kernel, rfl, by decide +kernel, by decide +kernel⟩
theorem sc_pull : FnScope ["_law_bag_here", "_law_many", "_law_cell", "_law_digit", "_law_seed"] ["_law_bag_here", "_law_many"] (defScope s_pull) := ⟨rfl, rfl, rfl, by decide +kernel, rfl, by decide +kernel, by decide +kernel⟩
theorem sc_of : FnScope ["_law_bag_here", "_law_some"] ["_law_bag_here", "_law_some"] (defScope s_of) := ⟨rfl, rfl, rfl, by decide +kernel, rfl, by decide +kernel, by decide +kernel⟩
theorem sc_same : FnScope ["_law_found", "_law_due", "_law_k"] ["_law_found", "_law_due"] (defScope s_same) := ⟨rfl, rfl, rfl, by decide +kernel, rfl, by decide +kernel, by decide +kernel⟩
theorem sc_field : FnScope ["_law_e"] ["_law_e"] (defScope s_field) := ⟨rfl, rfl, rfl, by decide +kernel, rfl, by decide +kernel, by decide +kernel⟩
theorem sc_bases : FnScope ["_law_e", "_law_some"] ["_law_e"] (defScope s_bases) := ⟨rfl, rfl, rfl, by decide +kernel, rfl, by decide +kernel, by decide +kernel⟩
theorem sc_kinds : FnScope ["_law_e", "_law_some"] ["_law_e"] (defScope s_kinds) := ⟨rfl, rfl, rfl, by decide +kernel, rfl, by decide +kernel, by decide +kernel⟩
theorem sc_law : FnScope ["_law_script", "_law_bag_here", "_law_k", "_law_text", "_law_some", "_law_words", "_law_at", "_law_bases_here", "_law_due", "_law_j"] ["_law_script"] (defScope s_law) := ⟨rfl, rfl, rfl, by decide +kernel, rfl, by decide +kernel, by decide +kernel⟩
structure Df (K : PySem.W.Frag) (mg : Str → Option Value) (x : Str) (st : Stmt) (ps : List Str) (f : Addr) (fd : FuncData) : Prop where
  F : Fun K x x st f fd
  m : mg x = some (.ref f)
  b : Binds K fd ps []
structure Ad where
  f_bag : Addr
  fd_bag : FuncData
  f_pull : Addr
  fd_pull : FuncData
  f_of : Addr
  fd_of : FuncData
  f_same : Addr
  fd_same : FuncData
  f_field : Addr
  fd_field : FuncData
  f_bases : Addr
  fd_bases : FuncData
  f_kinds : Addr
  fd_kinds : FuncData
  f_law : Addr
  fd_law : FuncData
structure Txt (K : PySem.W.Frag) (mg : Str → Option Value) (A : Ad) : Prop where
  d_bag : Df K mg "_law_bag" s_bag ["_law_script"] A.f_bag A.fd_bag
  d_pull : Df K mg "_law_pull" s_pull ["_law_bag_here", "_law_many"] A.f_pull A.fd_pull
  d_of : Df K mg "_law_of" s_of ["_law_bag_here", "_law_some"] A.f_of A.fd_of
  d_same : Df K mg "_law_same" s_same ["_law_found", "_law_due"] A.f_same A.fd_same
  d_field : Df K mg "_law_field" s_field ["_law_e"] A.f_field A.fd_field
  d_bases : Df K mg "_law_bases" s_bases ["_law_e"] A.f_bases A.fd_bases
  d_kinds : Df K mg "_law_kinds" s_kinds ["_law_e"] A.f_kinds A.fd_kinds
  d_law : Df K mg "law" s_law ["_law_script"] A.f_law A.fd_law
  all : mg "all" = none
  bool : mg "bool" = none
  int : mg "int" = none
  isinstance : mg "isinstance" = none
  len : mg "len" = none
  list : mg "list" = none
  range : mg "range" = none
  str : mg "str" = none
  tuple : mg "tuple" = none
/-! ## The law's own helpers: the bag, its draws, the comparison -/
theorem _root_.L2.Same.new {H : Hp} {p : Addr} (h : H p = none) (o : HO) : Same H (upd H p o) := fun b u q => by rw [upd_ne (ne_of_none q h)]; exact q
theorem _root_.L2.Same.set {H H' : Hp} {p : Addr} (e : Same H H') (h : H p = none) (o : HO) : Same H (upd H' p o) := fun b u q => by rw [upd_ne (ne_of_none q h)]; exact e b u q
theorem sl_small {n : Nat} (h : n ≤ 100000) : n ≤ sizeLine := Nat.le_trans h (by decide)
theorem sl_lt {n : Nat} (h : n < 100000) : n < sizeLine := Nat.lt_of_lt_of_le h (by decide)
theorem slr {n : Nat} (h : Nat.ble n 100000 = true) : n ≤ sizeLine := sl_small (Nat.le_of_ble_eq_true h)
theorem dec_t {p : Prop} [Decidable p] (h : p) : decide p = true := decide_eq_true h
def rLenK (K : PySem.W.Frag) : List V → Hp → VK → Prop := fun xs H Q => ∃ p ys, xs = [.ref p] ∧ (SqL K H p ys ∨ SqT K H p ys) ∧ Q (.int ys.length) H
def rListK (K : PySem.W.Frag) : List V → Hp → VK → Prop := fun xs H Q => ∃ p ys, xs = [.ref p] ∧ (SqL K H p ys ∨ SqT K H p ys) ∧ ∀ l, H l = none → Q (.ref l) (upd H l (.lst ys))
def rTupK (K : PySem.W.Frag) : List V → Hp → VK → Prop := fun xs H Q => ∃ p ys, xs = [.ref p] ∧ ((SqL K H p ys ∧ ∀ l, H l = none → Q (.ref l) (upd H l (.tup ys))) ∨ (SqT K H p ys ∧ Q (.ref p) H))
/-- what holds between two statements -/
theorem seq_key {t u : TS} {D : Ends} {σ : St} {H : Hp} (P : St → Hp → Prop) (h2 : ∀ σ H, P σ H → u D σ H) (h1 : (∀ σ H, P σ H → u D σ H) → t { D with nx := u D } σ H) : tSeq t u D σ H := h1 h2
/-- all but the object at b is as it was -/
def Apart (b : Addr) (H H' : Hp) : Prop := ∀ a o, a ≠ b → H a = some o → H' a = some o
theorem Apart.refl (b : Addr) (H : Hp) : Apart b H H := fun _ _ _ h => h
theorem Apart.trans {b : Addr} {H H1 H2 : Hp} (x : Apart b H H1) (y : Apart b H1 H2) : Apart b H H2 := fun a o n e => y a o n (x a o n e)
theorem _root_.L2.Same.apart {b : Addr} {H H' : Hp} (x : Same H H') : Apart b H H' := fun a o _ e => x a o e
theorem Apart.set {b : Addr} {H : Hp} (o : HO) : Apart b H (upd H b o) := fun a u n e => by rw [upd_ne n]; exact e
/-- the bag: its list of numbers l, the numbers ns, the place i, the rest c, the seed s, the count t -/
def bagL (l : Addr) (i c s t : Int) : List V := [.ref l, .int i, .int c, .int s, .int t]
structure Bag (H : Hp) (b l : Addr) : Prop where
  ex : ∃ (ns : List Int) (i c s t : Int), H b = some (.lst (bagL l i c s t)) ∧ H l = some (.lst (ns.map V.int)) ∧ 0 ≤ i ∧ 0 ≤ c ∧ 0 ≤ s ∧ s < 2147483647
theorem bag_ne {l : Addr} {i c s t : Int} {ns : List Int} : HO.lst (ns.map V.int) ≠ HO.lst (bagL l i c s t) := by
  intro e
  injection e with e
  cases ns with
  | nil => cases e
  | cons _ _ => cases e
theorem Bag.same {H H' : Hp} {b l : Addr} (x : Bag H b l) (e : Same H H') : Bag H' b l := by
  obtain ⟨ns, i, c, s, t, h1, h2, h⟩ := x.ex
  exact ⟨ns, i, c, s, t, e _ _ h1, e _ _ h2, h⟩
theorem Bag.there {H : Hp} {b l : Addr} (x : Bag H b l) : ∃ xs, H b = some (.lst xs) := by
  obtain ⟨ns, i, c, s, t, h1, _⟩ := x.ex
  exact ⟨_, h1⟩
theorem Bag.inner {H : Hp} {b l : Addr} (x : Bag H b l) : ∃ xs, H l = some (.lst xs) := by
  obtain ⟨ns, i, c, s, t, h1, h2, _⟩ := x.ex
  exact ⟨_, h2⟩
theorem Bag.new {H : Hp} {b l p : Addr} (x : Bag H b l) (h : H p = none) (o : HO) : Bag (upd H p o) b l := x.same (Same.new h o)
theorem Bag.ne {H : Hp} {b l p : Addr} (x : Bag H b l) (h : H p = none) : p ≠ b := by
  obtain ⟨_, h1⟩ := x.there
  exact (ne_of_none h1 h).symm
theorem Bag.ne2 {H : Hp} {b l p : Addr} (x : Bag H b l) (h : H p = none) : p ≠ l := by
  obtain ⟨_, h1⟩ := x.inner
  exact (ne_of_none h1 h).symm
theorem Bag.nt {H : Hp} {b l p : Addr} {xs : List V} (x : Bag H b l) (h : H p = some (.tup xs)) : p ≠ b := by
  obtain ⟨_, h1⟩ := x.there
  exact ne_of h h1 (fun z => nomatch z)
theorem Bag.upd {H : Hp} {b l p : Addr} {o : HO} (x : Bag H b l) (h1 : p ≠ b) (h2 : p ≠ l) : Bag (upd H p o) b l := by
  obtain ⟨ns, i, c, s, t, e1, e2, h⟩ := x.ex
  exact ⟨ns, i, c, s, t, by rw [upd_ne (Ne.symm h1)]; exact e1, by rw [upd_ne (Ne.symm h2)]; exact e2, h⟩
theorem Bag.put {H : Hp} {b l : Addr} {ns : List Int} {i c s t : Int} {i' c' s' t' : Int} (h1 : H b = some (.lst (bagL l i c s t))) (h2 : H l = some (.lst (ns.map V.int))) (hi : 0 ≤ i') (hc : 0 ≤ c') (hs : 0 ≤ s') (hs2 : s' < 2147483647) :
    Bag (L2.upd H b (.lst (bagL l i' c' s' t'))) b l := ⟨ns, i', c', s', t', upd_same, by rw [upd_ne (ne_of h2 h1 bag_ne)]; exact h2, hi, hc, hs, hs2⟩

def spBag (K : PySem.W.Frag) : Sp := fun vs H Q _ => ∃ (a : Addr) (ns : List Int), vs = [.ref a] ∧ SqL K H a (ns.map V.int) ∧ ns.length ≤ 63 ∧ ∀ (b l : Addr) (H' : Hp), Same H H' → H b = none → H l = none → Bag H' b l → Q (.ref b) H'
def spPull : Sp := fun vs H Q _ => ∃ (b l : Addr) (m : Int), vs = [.ref b, .int m] ∧ Bag H b l ∧ 0 < m ∧ m.natAbs < 2 ^ 200 ∧ ∀ (r : Int) (H' : Hp), 0 ≤ r → r < m → Apart b H H' → Bag H' b l → Q (.int r) H'
def spOf (K : PySem.W.Frag) : Sp := fun vs H Q _ => ∃ (b l a : Addr) (xs : List V), vs = [.ref b, .ref a] ∧ Bag H b l ∧ SqL K H a xs ∧ a ≠ b ∧ 0 < xs.length ∧ xs.length ≤ 1000 ∧ ∀ (i : Nat) (v : V) (H' : Hp), xs[i]? = some v → Apart b H H' → Bag H' b l → Q v H'

section
variable {P : Program} {w : World} {K : PySem.W.Frag} {mg : Str → Option Value} {base : Heap} {A : Ad}
theorem cut_ints (ns : List Int) (lo hi : Option Int) : ∃ ms : List Int, cutV (ns.map V.int) lo hi = ms.map V.int := by
  unfold cutV
  rw [← List.map_drop, ← List.map_take]
  exact ⟨_, rfl⟩
theorem int_at {ns : List Int} {i : Nat} {x : V} (h : (ns.map V.int)[i]? = some x) : ∃ u, x = V.int u := by
  rw [List.getElem?_map] at h
  cases e : ns[i]? with
  | none => rw [e] at h; cases h
  | some u => rw [e] at h; exact ⟨u, (Option.some.inj h).symm⟩
theorem ok_bag (T : Txt K mg A) : FnOk P w K mg base CX0 1 A.f_bag A.fd_bag ["_law_script"] (spBag K) := by
  refine T.d_bag.F.ok sc_bag (fun vs H Q E h => ?_) (fun cdv ar outer s H vs Q E hr h => ?_)
  · obtain ⟨a, ns, rfl, _⟩ := h
    rfl
  obtain ⟨a, ns, rfl, hS, h63, q⟩ := h
  refine ⟨_, (pss_cons (ps_set (i := 1) sc_bag.nd rfl (Or.inl rfl) pe_int)
    (pss_cons (ps_for PassesOwn.never rfl (pi_list (pe_slice (r := rSlL K) sl_list (pv 0) po_none (po_some pe_int))) (pg_name (i := 2) sc_bag.nd rfl (Or.inl rfl)) (pss_one (ps_set (i := 1) sc_bag.nd rfl (Or.inl rfl) (pe_op op_mod (pe_op op_add (pe_op op_add (pe_op op_mul (pv 1) pe_int) (pe_op op_mod (pv 2) pe_int)) pe_int) pe_int))))
    (pss_one (ps_ret (pe_lst (pa_cons (pe_callTy (r := rListK K) call_list_of (by rfl) T.list (by decide +kernel) (pa_cons (pe_slice (r := rSlL K) sl_list (pv 0) po_none (po_some pe_int)) pa_nil)) (pa_cons pe_int (pa_cons pe_int (pa_cons (pv 1) (pa_cons pe_int pa_nil)))))))))), ?_⟩
  refine ⟨_, rfl, 63, rfl, a, _, rfl, hS, fun p hp => ?_⟩
  refine ⟨p, rfl, ⟨_, SqL.of upd_same⟩, ?_⟩
  obtain ⟨ms, em⟩ := cut_ints ns none (some 63)
  have s1 : Same H (upd H p (.lst (cutV (ns.map V.int) none (some 63)))) := Same.new hp _
  refine for_list (xs := cutV (ns.map V.int) none (some 63)) (fun _ σ H' => ∃ (z : Int) (u : Option V), σ = [some (.ref a), some (.int z), u] ∧ 0 ≤ z ∧ z < 2147483647 ∧ H' = upd H p (.lst (cutV (ns.map V.int) none (some 63)))) ⟨3801, none, rfl, by decide, by decide, rfl⟩ ?_ ?_ ?_
  · rintro i σ H' _ ⟨z, u, _, _, _, rfl⟩
    exact SqL.of upd_same
  · rintro i x σ H' hi ⟨z, u, rfl, z0, z1, rfl⟩
    rw [em] at hi
    obtain ⟨y, rfl⟩ := int_at hi
    refine ⟨_, rfl, _, _, rfl, rfl, .inr ⟨by decide, by decide⟩, _, rfl, _, _, rfl, rfl, (by show (0 : Int) < 2147483549; decide), _, _, rfl, rfl, _, _, rfl, rfl, _, _, rfl, rfl, (by show (0 : Int) < 2147483647; decide), ?_⟩
    exact ⟨_, _, rfl, Int.emod_nonneg _ (by decide), Int.emod_lt_of_pos _ (by decide), rfl⟩
  · rintro σ H' ⟨z, u, rfl, z0, z1, rfl⟩
    refine ⟨_, rfl, 63, rfl, a, _, rfl, s1.seq hS, fun p2 hp2 => ?_⟩
    refine ⟨p2, _, rfl, .inl (SqL.of upd_same), fun l hl => ?_⟩
    refine ⟨_, rfl, (by show 5 ≤ sizeLine; decide), fun b hb => ?_⟩
    have s2 := s1.set (s1.free hp2) (.lst (cutV (ns.map V.int) none (some 63)))
    have s3 := s2.set (s2.free hl) (.lst (cutV (ns.map V.int) none (some 63)))
    have s4 := s3.set (s3.free hb) (.lst [.ref l, .int 0, .int 0, .int z, .int 0])
    refine q b l _ s4 (s3.free hb) (s2.free hl) ⟨ms, 0, 0, z, 0, upd_same, ?_, by decide, by decide, z0, z1⟩
    rw [upd_ne (ne_of_none upd_same hb), upd_same, em]
theorem ok_pull (T : Txt K mg A) : FnOk P w K mg base CX0 1 A.f_pull A.fd_pull ["_law_bag_here", "_law_many"] spPull := by
  refine T.d_pull.F.ok sc_pull (fun vs H Q E h => ?_) (fun cdv ar outer s H vs Q E hr h => ?_)
  · obtain ⟨b, l, m, rfl, _⟩ := h
    rfl
  obtain ⟨b, l, m, rfl, ⟨⟨ns, i, c, s, t, h1, h2, hi, hc, hs, hs2⟩⟩, hm, hm2, q⟩ := h
  refine ⟨_, (pss_cons (ps_if (PW.pt (pw_and (pt_cmpR op_eq (pe_ix (r := rIxL K) ix_list (pv 0) pe_int (fun _ _ => rfl)) pe_int (nomark _)) (pw_and1 (pt_cmpR op_lt (pe_ix (r := rIxL K) ix_list (pv 0) pe_int (fun _ _ => rfl)) (pe_callB (r := rLenK K) call_len_seq (by rfl) T.len (by decide +kernel) (pa_cons (pe_ix (r := rIxL K) ix_list (pv 0) pe_int (fun _ _ => rfl)) pa_nil)) (nomark _))))) (pss_cons (ps_set (i := 2) sc_pull.nd rfl (Or.inl rfl) (pe_ix (r := rIxL K) ix_list (pe_ix (r := rIxL K) ix_list (pv 0) pe_int (fun _ _ => rfl)) (pe_ix (r := rIxL K) ix_list (pv 0) pe_int (fun _ _ => rfl)) (fun _ _ => rfl)))
    (pss_cons (ps_asg (pe_op op_add (pe_ix (r := rIxL K) ix_list (pv 0) pe_int (fun _ _ => rfl)) pe_int) (pg_sub (pv 0) pe_int set_list))
    (pss_one (ps_if (pt_cmpR op_ge (pv 2) (pe_op op_pow pe_int pe_int) (nomark _)) (pss_one (ps_asg (pv 2) (pg_sub (pv 0) pe_int set_list))) (pss_one (ps_asg (pe_op op_mod (pe_op op_add (pe_op op_add (pe_op op_mul (pe_ix (r := rIxL K) ix_list (pv 0) pe_int (fun _ _ => rfl)) pe_int) (pe_op op_mul (pe_op op_mod (pv 2) pe_int) pe_int)) pe_int) pe_int) (pg_sub (pv 0) pe_int set_list))))))) pss_nil)
    (pss_cons (ps_if (pt_cmpR op_gt (pe_ix (r := rIxL K) ix_list (pv 0) pe_int (fun _ _ => rfl)) pe_int (nomark _)) (pss_cons (ps_set (i := 3) sc_pull.nd rfl (Or.inl rfl) (pe_op op_mod (pe_ix (r := rIxL K) ix_list (pv 0) pe_int (fun _ _ => rfl)) (pv 1)))
    (pss_cons (ps_asg (pe_op op_fdivW (pe_ix (r := rIxL K) ix_list (pv 0) pe_int (fun _ _ => rfl)) (pv 1)) (pg_sub (pv 0) pe_int set_list))
    (pss_one (ps_ret (pv 3))))) pss_nil)
    (pss_cons (ps_asg (pe_op op_add (pe_ix (r := rIxL K) ix_list (pv 0) pe_int (fun _ _ => rfl)) pe_int) (pg_sub (pv 0) pe_int set_list))
    (pss_cons (ps_set (i := 4) sc_pull.nd rfl (Or.inl rfl) (pe_op op_mod (pe_op op_add (pe_ix (r := rIxL K) ix_list (pv 0) pe_int (fun _ _ => rfl)) (pe_op op_mul (pe_ix (r := rIxL K) ix_list (pv 0) pe_int (fun _ _ => rfl)) pe_int)) pe_int))
    (pss_cons (ps_asg (pe_op op_mod (pe_op op_add (pe_op op_add (pe_op op_mul (pe_op op_mod (pe_op op_mul (pv 4) (pv 4)) pe_int) (pv 4)) (pe_op op_mul pe_int (pv 4))) pe_int) pe_int) (pg_sub (pv 0) pe_int set_list))
    (pss_one (ps_ret (pe_op op_mod (pe_op op_add (pe_op op_fdiv (pe_ix (r := rIxL K) ix_list (pv 0) pe_int (fun _ _ => rfl)) pe_int) (pe_op op_mul (pe_op op_mod (pe_ix (r := rIxL K) ix_list (pv 0) pe_int (fun _ _ => rfl)) pe_int) pe_int)) (pv 1))))))))), ?_⟩
  have hbL : SqL K H b (bagL l i c s t) := SqL.of h1
  have a0 : ∀ {i c s t : Int}, atI (bagL l i c s t) 0 = some (.ref l) := at_of (j := 0) rfl rfl
  have a1 : ∀ {i c s t : Int}, atI (bagL l i c s t) 1 = some (.int i) := at_of (j := 1) rfl rfl
  have a2 : ∀ {i c s t : Int}, atI (bagL l i c s t) 2 = some (.int c) := at_of (j := 2) rfl rfl
  have a3 : ∀ {i c s t : Int}, atI (bagL l i c s t) 3 = some (.int s) := at_of (j := 3) rfl rfl
  have a4 : ∀ {i c s t : Int}, atI (bagL l i c s t) 4 = some (.int t) := at_of (j := 4) rfl rfl
  refine seq_key (fun σ' H' => ∃ (i c s : Int) (u : Option V), σ' = [some (.ref b), some (.int m), u, none, none] ∧ 0 ≤ i ∧ 0 ≤ c ∧ 0 ≤ s ∧ s < 2147483647 ∧ Apart b H H' ∧ H' b = some (.lst (bagL l i c s t)) ∧ H' l = some (.lst (ns.map V.int))) ?_ (fun k => ?_)
  · rintro σ' H' ⟨i, c, s, u, rfl, hi, hc, hs, hs2, hA, h1, h2⟩
    have hbL : SqL K H' b (bagL l i c s t) := SqL.of h1
    refine seq_key (fun σ' H2 => σ' = [some (.ref b), some (.int m), u, none, none] ∧ H' = H2) ?_ (fun k => ?_)
    · rintro _ _ ⟨rfl, rfl⟩
      -- the count, the seed, the draw
      refine ⟨_, rfl, b, _, _, _, rfl, rfl, hbL, a4, _, _, rfl, rfl, _, rfl, b, _, _, _, rfl, rfl, h1, rfl, ?_⟩
      refine ⟨_, rfl, b, _, _, _, rfl, rfl, SqL.of upd_same, at_of (j := 3) rfl rfl, _, rfl, b, _, _, _, rfl, rfl, SqL.of upd_same, at_of (j := 4) rfl rfl, _, _, rfl, rfl, .inr ⟨by decide, by decide⟩, _, _, rfl, rfl, _, _, rfl, rfl, (by show (0 : Int) < 2147483647; decide), ?_⟩
      have d0 : 0 ≤ (s + (t + 1) * 7919) % 2147483647 := Int.emod_nonneg _ (by decide)
      have d1 : (s + (t + 1) * 7919) % 2147483647 < 2147483647 := Int.emod_lt_of_pos _ (by decide)
      have d2 : -(2 ^ 64) < (s + (t + 1) * 7919) % 2147483647 ∧ (s + (t + 1) * 7919) % 2147483647 < 2 ^ 64 := ⟨by omega, by omega⟩
      refine ⟨_, rfl, _, rfl, _, _, rfl, rfl, .inr d2, _, _, rfl, rfl, (by show (0 : Int) < 2147483629; decide), _, rfl, _, _, rfl, rfl, .inr d2, _, rfl, _, _, rfl, rfl, .inl ⟨by decide, by decide⟩, _, _, rfl, rfl, _, _, rfl, rfl, _, _, rfl, rfl, (by show (0 : Int) < 2147483647; decide), ?_⟩
      refine ⟨_, rfl, b, _, _, _, rfl, rfl, upd_same, rfl, ?_⟩
      refine ⟨_, rfl, b, _, _, _, rfl, rfl, SqL.of upd_same, at_of (j := 3) rfl rfl, _, _, rfl, rfl, ⟨by decide, by decide⟩, _, rfl, b, _, _, _, rfl, rfl, SqL.of upd_same, at_of (j := 3) rfl rfl, _, _, rfl, rfl, (by show (0 : Int) < 8191; decide), _, _, rfl, rfl, .inr ⟨by decide, by decide⟩, _, _, rfl, rfl, _, rfl, _, _, rfl, rfl, hm, ?_⟩
      refine q _ _ (Int.emod_nonneg _ (Int.ne_of_gt hm)) (Int.emod_lt_of_pos _ hm) ((hA.trans (Apart.set _)).trans (Apart.set _)) ?_
      refine Bag.put (i := i) (c := c) (s := s) (t := t + 1) (ns := ns) (i' := i) (c' := c) (t' := t + 1) upd_same ?_ hi hc (Int.emod_nonneg _ (by decide)) (Int.emod_lt_of_pos _ (by decide))
      rw [upd_ne (ne_of h2 h1 bag_ne)]
      exact h2
    · refine ⟨_, rfl, b, _, _, _, rfl, rfl, hbL, a2, _, _, rfl, rfl, _, rfl, ?_⟩
      refine ite2 (fun c0 => ?_) (fun c0 => ?_)
      · refine ⟨_, rfl, b, _, _, _, rfl, rfl, hbL, a2, _, rfl, _, _, rfl, rfl, hm, ?_⟩
        refine ⟨_, rfl, b, _, _, _, rfl, rfl, hbL, a2, _, rfl, _, _, rfl, rfl, wide_div hm hm2 (by decide) (by decide), _, rfl, b, _, _, _, rfl, rfl, h1, rfl, ?_⟩
        refine ⟨_, rfl, ?_⟩
        refine q _ _ (Int.emod_nonneg _ (Int.ne_of_gt hm)) (Int.emod_lt_of_pos _ hm) (hA.trans (Apart.set _)) ?_
        exact Bag.put h1 h2 hi (Int.ediv_nonneg hc (Int.le_of_lt hm)) hs hs2
      · exact k _ _ ⟨rfl, rfl⟩
  · refine ⟨_, rfl, b, _, _, _, rfl, rfl, hbL, a2, rfl, _, rfl, ?_⟩
    refine ite2 (fun c0 => ?_) (fun c0 => ?_)
    · refine ⟨_, rfl, b, _, _, _, rfl, rfl, hbL, a1, _, rfl, b, _, _, _, rfl, rfl, hbL, a0, l, _, rfl, .inl (SqL.of h2), _, _, rfl, rfl, _, rfl, ?_⟩
      refine ite2 (fun c1 => ?_) (fun c1 => ?_)
      · have c2 : i < (((ns.map V.int).length : Nat) : Int) := of_decide_eq_true c1
        rw [List.length_map] at c2
        obtain ⟨z, hz⟩ : ∃ z : Int, (ns.map V.int)[i.toNat]? = some (.int z) := by
          rw [List.getElem?_map, List.getElem?_eq_getElem (by omega)]
          exact ⟨_, rfl⟩
        refine ⟨_, rfl, b, _, _, _, rfl, rfl, hbL, a0, _, rfl, b, _, _, _, rfl, rfl, hbL, a1, l, _, _, _, rfl, rfl, SqL.of h2, at_of (j := i.toNat) (by omega) hz, ?_⟩
        refine ⟨_, rfl, b, _, _, _, rfl, rfl, hbL, a1, _, _, rfl, rfl, _, rfl, b, _, _, _, rfl, rfl, h1, rfl, ?_⟩
        have g1 : SqL K (upd H b (.lst (bagL l (i + 1) c s t))) b (bagL l (i + 1) c s t) := SqL.of upd_same
        have g2 : upd H b (.lst (bagL l (i + 1) c s t)) l = some (.lst (ns.map V.int)) := by
          rw [upd_ne (ne_of h2 h1 bag_ne)]
          exact h2
        refine ⟨_, rfl, _, _, rfl, rfl, ⟨by decide, by decide, by decide⟩, _, _, rfl, rfl, _, rfl, ?_⟩
        refine ite2 (fun c3 => ?_) (fun c3 => ?_)
        · have c4 : (10 : Int) ^ (18 : Int).toNat ≤ z := of_decide_eq_true c3
          have c5 : (0 : Int) ≤ z := Int.le_trans (by decide) c4
          refine ⟨_, rfl, _, rfl, b, _, _, _, rfl, rfl, upd_same, rfl, ?_⟩
          refine k _ _ ⟨i + 1, z, s, _, rfl, by omega, c5, hs, hs2, (Apart.set _).trans (Apart.set _), upd_same, ?_⟩
          rw [upd_ne (ne_of h2 h1 bag_ne)]
          exact g2
        · refine ⟨_, rfl, b, _, _, _, rfl, rfl, g1, a3, _, _, rfl, rfl, .inr ⟨by decide, by decide⟩, _, rfl, _, _, rfl, rfl, (by show (0 : Int) < 2147483549; decide), _, _, rfl, rfl, .inr ⟨by decide, by decide⟩, _, _, rfl, rfl, _, _, rfl, rfl, _, _, rfl, rfl, (by show (0 : Int) < 2147483647; decide), ?_⟩
          refine ⟨_, rfl, b, _, _, _, rfl, rfl, upd_same, rfl, ?_⟩
          refine k _ _ ⟨i + 1, c, _, _, rfl, by omega, hc, Int.emod_nonneg _ (by decide), Int.emod_lt_of_pos _ (by decide), (Apart.set _).trans (Apart.set _), upd_same, ?_⟩
          rw [upd_ne (ne_of h2 h1 bag_ne)]
          exact g2
      · exact k _ _ ⟨i, c, s, _, rfl, hi, hc, hs, hs2, Apart.refl b H, h1, h2⟩
    · exact k _ _ ⟨i, c, s, _, rfl, hi, hc, hs, hs2, Apart.refl b H, h1, h2⟩
theorem Apart.seq {K : PySem.W.Frag} {b a : Addr} {H H' : Hp} {xs : List V} (e : Apart b H H') (n : a ≠ b) (h : SqL K H a xs) : SqL K H' a xs := by
  rcases h with (h | ⟨o, h⟩) | h
  · exact .inl (.inl (e _ _ n h))
  · exact .inl (.inr ⟨o, e _ _ n h⟩)
  · exact .inr h
theorem ok_of (T : Txt K mg A) : FnOk P w K mg base CX0 2 A.f_of A.fd_of ["_law_bag_here", "_law_some"] (spOf K) := by
  refine T.d_of.F.ok sc_of (fun vs H Q E h => ?_) (fun cdv ar outer s H vs Q E hr h => ?_)
  · obtain ⟨b, l, a, xs, rfl, _⟩ := h
    rfl
  obtain ⟨b, l, a, xs, rfl, hB, hS, hn, h0, h1, q⟩ := h
  refine ⟨_, (pss_one (ps_ret (pe_ix (r := rIx K) ix_seq (pv 1) (pe_call (ok_pull T) (hr.mono (by decide)) rfl T.d_pull.m T.d_pull.F.kp T.d_pull.b .nil pass0 (pa_cons (pv 0) (pa_cons (pe_callB (r := rLenK K) call_len_seq (by rfl) T.len (by decide +kernel) (pa_cons (pv 1) pa_nil)) pa_nil))) (fun _ _ => rfl)))), ?_⟩
  refine ⟨_, rfl, _, rfl, _, rfl, a, _, rfl, .inl hS, b, l, _, rfl, hB, by omega, Nat.lt_of_le_of_lt (show ((xs.length : Nat) : Int).natAbs ≤ 1000 by omega) (by decide), fun r H' r0 r1 ap bg => ?_⟩
  have hi : r.toNat < xs.length := by omega
  refine .inl ⟨a, _, _, _, rfl, rfl, ap.seq hn hS, at_of (j := r.toNat) (by omega) (List.getElem?_eq_getElem hi), ?_⟩
  exact q r.toNat _ H' (List.getElem?_eq_getElem hi) ap bg

/-! ### the comparison -/
/-- two flat values are one -/
def Flat : V → Prop
  | .non => True
  | .bl _ => True
  | .int _ => True
  | .str _ => True
  | _ => False
/-- x and y hold the same data, at most n lists one in another -/
def EqD (K : PySem.W.Frag) (H : Hp) : Nat → V → V → Prop
  | 0, x, y => x = y ∧ Flat x
  | n + 1, x, y => (x = y ∧ Flat x) ∨ (∃ (a b : Addr) (xs ys : List V), x = .ref a ∧ y = .ref b ∧ H a = some (.lst xs) ∧ H b = some (.lst ys) ∧ Paired (EqD K H n) xs ys ∧ xs.length ≤ 100000) ∨
    (∃ (a b : Addr) (xs ys : List V), x = .ref a ∧ y = .ref b ∧ H a = some (.tup xs) ∧ H b = some (.tup ys) ∧ Paired (EqD K H n) xs ys ∧ xs.length ≤ 100000)
theorem EqD.flat {K : PySem.W.Frag} {H : Hp} {x : V} (h : Flat x) : ∀ {n : Nat}, EqD K H n x x
  | 0 => ⟨rfl, h⟩
  | _ + 1 => .inl ⟨rfl, h⟩
theorem paired_imp {α β : Type} {R S : α → β → Prop} (f : ∀ a b, R a b → S a b) : ∀ {xs : List α} {ys : List β}, Paired R xs ys → Paired S xs ys
  | _, _, .nil => .nil
  | _, _, .cons h t => .cons (f _ _ h) (paired_imp f t)
theorem EqD.mono {K : PySem.W.Frag} {H H' : Hp} (e : Same H H') : ∀ {n : Nat} {x y : V}, EqD K H n x y → EqD K H' n x y
  | 0, _, _, h => h
  | n + 1, x, y, h => by
    rcases h with h | ⟨a, b, xs, ys, h1, h2, h3, h4, h5, h6⟩ | ⟨a, b, xs, ys, h1, h2, h3, h4, h5, h6⟩
    · exact .inl h
    · exact .inr (.inl ⟨a, b, xs, ys, h1, h2, e _ _ h3, e _ _ h4, paired_imp (fun _ _ z => EqD.mono e z) h5, h6⟩)
    · exact .inr (.inr ⟨a, b, xs, ys, h1, h2, e _ _ h3, e _ _ h4, paired_imp (fun _ _ z => EqD.mono e z) h5, h6⟩)
theorem paired_len {α β : Type} {R : α → β → Prop} : ∀ {xs : List α} {ys : List β}, Paired R xs ys → xs.length = ys.length
  | _, _, .nil => rfl
  | _, _, .cons _ t => congrArg (· + 1) (paired_len t)
theorem paired_at {α β : Type} {R : α → β → Prop} : ∀ {xs : List α} {ys : List β} {i : Nat} {y : β}, Paired R xs ys → ys[i]? = some y → ∃ x, xs[i]? = some x ∧ R x y
  | _, _, _, _, .nil, e => by cases e
  | x :: _, _, 0, _, .cons r _, e => by cases e; exact ⟨x, rfl, r⟩
  | _, _, i + 1, y, .cons _ t, e => by
    obtain ⟨x, h1, h2⟩ := paired_at (i := i) (y := y) t (by simpa using e)
    exact ⟨x, by simpa using h1, h2⟩
def spSame (K : PySem.W.Frag) (n : Nat) : Sp := fun vs H Q _ => ∃ (x y : V), vs = [x, y] ∧ EqD K H n x y ∧ ∀ (H' : Hp), Same H H' → Q (.bl true) H'
theorem kt_lt {t : String} {b : Bool} (h1 : kitB t "list" = some false) (h2 : kitB t "tuple" = some b) : PySem.W.kitAny K (.type t) [.type "list", .type "tuple"] = some b :=
  kitAny_cons (kit_ty h1) (fun _ => by
    cases b with
    | true => exact kitAny_cons (kit_ty h2) (fun z => nomatch z) (fun _ => rfl)
    | false => exact kitAny_cons (kit_ty h2) (fun _ => kitAny_nil) (fun z => nomatch z)) (fun z => nomatch z)
theorem kt_l : PySem.W.kitAny K (.type "list") [.type "list", .type "tuple"] = some true := kitAny_cons (b := true) (kit_ty (by decide +kernel)) (fun z => Bool.noConfusion z) (fun _ => rfl)
theorem kt_t : PySem.W.kitAny K (.type "tuple") [.type "list", .type "tuple"] = some true := kt_lt (by decide +kernel) (by decide +kernel)
theorem cls2 : Paired ClsV [V.ty "list", V.ty "tuple"] [Value.type "list", Value.type "tuple"] := .cons (.ty _) (.cons (.ty _) .nil)
theorem isi_flat {v : V} (h : Flat v) (hn : v ≠ .non) : ∃ (t : String) (a b c : Bool), (∀ H, TyX K H v (.type t)) ∧ kitB t "list" = some false ∧ kitB t "tuple" = some false ∧ kitB t "bool" = some a ∧ kitB t "int" = some b ∧ kitB t "str" = some c := by
  cases v with
  | non => exact absurd rfl hn
  | bl b => exact ⟨"bool", true, true, false, fun _ => .base (.bl b), by decide +kernel, by decide +kernel, by decide +kernel, by decide +kernel, by decide +kernel⟩
  | int i => exact ⟨"int", false, true, false, fun _ => .base (.int i), by decide +kernel, by decide +kernel, by decide +kernel, by decide +kernel, by decide +kernel⟩
  | str x => exact ⟨"str", false, false, true, fun _ => .base (.str x), by decide +kernel, by decide +kernel, by decide +kernel, by decide +kernel, by decide +kernel⟩
  | byt _ => exact h.elim
  | flt _ => exact h.elim
  | ref _ => exact h.elim
  | ty _ => exact h.elim
theorem scal_flat {v : V} (h : Flat v) : scal v v = true := by
  cases v <;> first | rfl | exact h.elim
theorem ne_bl (a : Bool) : (!decide (V.bl a = V.bl a)) = false := by rw [decide_eq_true rfl]; rfl
theorem ok_same_step (T : Txt K mg A) (n : Nat) (G : ∀ m, n = m + 1 → FnOk P w K mg base CX0 n A.f_same A.fd_same ["_law_found", "_law_due"] (spSame K m)) : FnOk P w K mg base CX0 (n + 1) A.f_same A.fd_same ["_law_found", "_law_due"] (spSame K n) := by
  refine T.d_same.F.ok sc_same (fun vs H Q E h => ?_) (fun cdv ar outer s H vs Q E hr h => ?_)
  · obtain ⟨x, y, rfl, _⟩ := h
    rfl
  obtain ⟨x, y, rfl, hE, q⟩ := h
  by_cases hf : Flat x ∧ x = y
  · obtain ⟨hf, rfl⟩ := hf
    have G : FnOk P w K mg base CX0 n A.f_same A.fd_same ["_law_found", "_law_due"] (fun _ _ _ _ => False) := ⟨fun _ _ _ _ h => h.elim, fun _ _ _ _ _ _ _ _ _ _ _ _ _ h => h.elim⟩
    refine ⟨_, (pss_cons (ps_if (PW.pt (pw_or (pt_cmpR op_isN (pv 1) pe_non (nomark _)) (pw_or1 (pt_cmpR op_isN (pv 0) pe_non (nomark _))))) (pss_one (ps_ret (pe_and (pe_cmpR op_isN (pv 0) pe_non (nomark _)) (pe_one (pe_cmpR op_isN (pv 1) pe_non (nomark _)))))) pss_nil)
    (pss_cons (ps_if (pt_val (pe_callB (r := rIsiT K) call_isiT (by rfl) T.isinstance (by decide +kernel) (pa_cons (pv 1) (pa_cons (pe_tup (pa_cons (pe_bltn (v := .ty "list") (u := .type "list") (by rfl) T.list (by decide +kernel) rfl) (pa_cons (pe_bltn (v := .ty "tuple") (u := .type "tuple") (by rfl) T.tuple (by decide +kernel) rfl) pa_nil))) pa_nil)))) (pss_cons (ps_if (PW.pt (pw_or (pt_cmpR op_ne (pe_callB (r := rIsi K) call_isi (by rfl) T.isinstance (by decide +kernel) (pa_cons (pv 0) (pa_cons (pe_bltn (v := .ty "list") (u := .type "list") (by rfl) T.list (by decide +kernel) rfl) pa_nil))) (pe_callB (r := rIsi K) call_isi (by rfl) T.isinstance (by decide +kernel) (pa_cons (pv 1) (pa_cons (pe_bltn (v := .ty "list") (u := .type "list") (by rfl) T.list (by decide +kernel) rfl) pa_nil))) (nomark _)) (pw_or1 (pt_cmpR op_ne (pe_callB (r := rIsi K) call_isi (by rfl) T.isinstance (by decide +kernel) (pa_cons (pv 0) (pa_cons (pe_bltn (v := .ty "tuple") (u := .type "tuple") (by rfl) T.tuple (by decide +kernel) rfl) pa_nil))) (pe_callB (r := rIsi K) call_isi (by rfl) T.isinstance (by decide +kernel) (pa_cons (pv 1) (pa_cons (pe_bltn (v := .ty "tuple") (u := .type "tuple") (by rfl) T.tuple (by decide +kernel) rfl) pa_nil))) (nomark _))))) (pss_one (ps_ret pe_bl)) pss_nil)
    (pss_one (ps_ret (pe_and (pe_cmpR op_eq (pe_callB (r := rLenK K) call_len_seq (by rfl) T.len (by decide +kernel) (pa_cons (pv 0) pa_nil)) (pe_callB (r := rLenK K) call_len_seq (by rfl) T.len (by decide +kernel) (pa_cons (pv 1) pa_nil)) (nomark _)) (pe_one (pe_callB (r := rAll K) (cr_all rfl) (by rfl) T.all (by decide +kernel) (pa_cons (pe_lc (own := [("_law_k", 2)]) (g := gName 2) (tt := tYes) rfl sc_same.nd (pi_range1 rfl T.range (pa_cons (pe_callB (r := rLenK K) call_len_seq (by rfl) T.len (by decide +kernel) (pa_cons (pv 1) pa_nil)) pa_nil)) (blkOk_by (own := [("_law_k", 2)]) (N := ["_law_found", "_law_due", "_law_k"]) (sc := defScope s_same) (by decide +kernel)) (fun _ _ _ _ _ => (pg_name (i := 2) sc_same.nd rfl (Or.inl rfl))) (fun _ _ _ _ _ => pts_nil) (fun _ _ _ _ _ => (pe_call G hr rfl T.d_same.m T.d_same.F.kp T.d_same.b .nil pass0 (pa_cons (pe_ix (r := rIx K) ix_seq (pv 0) (pv 2) (fun _ _ => rfl)) (pa_cons (pe_ix (r := rIx K) ix_seq (pv 1) (pv 2) (fun _ _ => rfl)) pa_nil))))) pa_nil))))))) pss_nil)
    (pss_cons (ps_if (PW.pt (pw_or (pt_cmpR op_ne (pe_callB (r := rIsi K) call_isi (by rfl) T.isinstance (by decide +kernel) (pa_cons (pv 1) (pa_cons (pe_bltn (v := .ty "bool") (u := .type "bool") (by rfl) T.bool (by decide +kernel) rfl) pa_nil))) (pe_callB (r := rIsi K) call_isi (by rfl) T.isinstance (by decide +kernel) (pa_cons (pv 0) (pa_cons (pe_bltn (v := .ty "bool") (u := .type "bool") (by rfl) T.bool (by decide +kernel) rfl) pa_nil))) (nomark _)) (pw_or1 (pt_cmpR op_ne (pe_callB (r := rIsi K) call_isi (by rfl) T.isinstance (by decide +kernel) (pa_cons (pv 1) (pa_cons (pe_bltn (v := .ty "int") (u := .type "int") (by rfl) T.int (by decide +kernel) rfl) pa_nil))) (pe_callB (r := rIsi K) call_isi (by rfl) T.isinstance (by decide +kernel) (pa_cons (pv 0) (pa_cons (pe_bltn (v := .ty "int") (u := .type "int") (by rfl) T.int (by decide +kernel) rfl) pa_nil))) (nomark _))))) (pss_one (ps_ret pe_bl)) pss_nil)
    (pss_one (ps_ret (pe_and (pe_cmpR op_eq (pe_callB (r := rIsi K) call_isi (by rfl) T.isinstance (by decide +kernel) (pa_cons (pv 1) (pa_cons (pe_bltn (v := .ty "str") (u := .type "str") (by rfl) T.str (by decide +kernel) rfl) pa_nil))) (pe_callB (r := rIsi K) call_isi (by rfl) T.isinstance (by decide +kernel) (pa_cons (pv 0) (pa_cons (pe_bltn (v := .ty "str") (u := .type "str") (by rfl) T.str (by decide +kernel) rfl) pa_nil))) (nomark _)) (pe_one (pe_cmpR op_eq (pv 0) (pv 1) (nomark _))))))))), ?_⟩
    by_cases hn : x = .non
    · subst hn
      refine ⟨_, rfl, rfl, _, rfl, iteT (iteT ?_)⟩
      refine ⟨_, rfl, rfl, _, rfl, iteT ⟨_, rfl, rfl, ?_⟩⟩
      exact q _ (Same.refl H)
    · have d0 : decide (x = V.non) = false := decide_eq_false hn
      refine ⟨_, rfl, rfl, _, rfl, ?_⟩
      rw [d0]
      refine iteF ⟨_, rfl, rfl, _, rfl, ?_⟩
      rw [d0]
      refine iteF ?_
      obtain ⟨t, a, b, c, ty, k1, k2, k3, k4, k5⟩ := isi_flat (K := K) hf hn
      refine ⟨_, rfl, sl_small (by decide), fun p hp => ⟨_, p, _, _, _, false, rfl, upd_same, cls2, ty _, kt_lt k1 k2, _, rfl, iteF ?_⟩⟩
      refine ⟨_, rfl, _, _, _, _, _, rfl, .ty _, ty _, kit_ty k3, _, rfl, _, _, _, _, _, rfl, .ty _, ty _, kit_ty k3, rfl, _, rfl, ?_⟩
      rw [ne_bl]
      refine iteF ⟨_, rfl, _, _, _, _, _, rfl, .ty _, ty _, kit_ty k4, _, rfl, _, _, _, _, _, rfl, .ty _, ty _, kit_ty k4, rfl, _, rfl, ?_⟩
      rw [ne_bl]
      refine iteF ⟨_, rfl, _, _, _, _, _, rfl, .ty _, ty _, kit_ty k5, _, rfl, _, _, _, _, _, rfl, .ty _, ty _, kit_ty k5, rfl, _, rfl, ?_⟩
      rw [decide_eq_true rfl]
      refine iteT ⟨_, rfl, _, rfl, scal_flat hf, ?_⟩
      rw [decide_eq_true rfl]
      exact q _ (Same.new hp _)
  · -- two lists, or two tuples
    obtain ⟨m, rfl, b1, a, b, xs, ys, T1, rfl, rfl, hP, hl⟩ : ∃ (m : Nat), n = m + 1 ∧ ∃ (tl : Bool) (a b : Addr) (xs ys : List V) (_ : H a = some (if tl then HO.lst xs else HO.tup xs) ∧ H b = some (if tl then HO.lst ys else HO.tup ys)), x = .ref a ∧ y = .ref b ∧ Paired (EqD K H m) xs ys ∧ xs.length ≤ 100000 := by
      cases n with
      | zero => exact absurd ⟨hE.2, hE.1⟩ hf
      | succ m =>
        rcases hE with h | ⟨a, b, xs, ys, h1, h2, h3, h4, h5, h6⟩ | ⟨a, b, xs, ys, h1, h2, h3, h4, h5, h6⟩
        · exact absurd ⟨h.2, h.1⟩ hf
        · exact ⟨m, rfl, true, a, b, xs, ys, ⟨h3, h4⟩, h1, h2, h5, h6⟩
        · exact ⟨m, rfl, false, a, b, xs, ys, ⟨h3, h4⟩, h1, h2, h5, h6⟩
    obtain ⟨ha, hb⟩ := T1
    have G := G m rfl
    have hlen := paired_len hP
    have seq : ∀ {H' : Hp} {a : Addr} {xs : List V}, H' a = some (if b1 then HO.lst xs else HO.tup xs) → SqL K H' a xs ∨ SqT K H' a xs := fun {H' a xs} h => by
      cases b1 with
      | true => exact .inl (SqL.of h)
      | false => exact .inr (SqT.of h)
    have ixs : ∀ {H' : Hp} {a : Addr} {xs : List V} {i : Nat} {v : V} {Q : VK}, H' a = some (if b1 then HO.lst xs else HO.tup xs) → xs[i]? = some v → Q v H' → rIx K (.ref a) (.int (0 + (i : Int))) H' Q := fun {H' a xs i v Q} h e k => by
      cases b1 with
      | true => exact .inl ⟨a, _, _, _, rfl, rfl, SqL.of h, at_of (j := i) (by omega) e, k⟩
      | false => exact .inr (.inl ⟨a, _, _, _, rfl, rfl, SqT.of h, at_of (j := i) (by omega) e, k⟩)
    obtain ⟨t, ty, k1, k2, k3⟩ : ∃ t : String, (∀ (H' : Hp) (a : Addr) (xs : List V), H' a = some (if b1 then HO.lst xs else HO.tup xs) → TyX K H' (.ref a) (.type t)) ∧ PySem.W.kitAny K (.type t) [.type "list", .type "tuple"] = some true ∧ (∃ c, kitB t "list" = some c) ∧ (∃ c, kitB t "tuple" = some c) := by
      cases b1 with
      | true => exact ⟨"list", fun _ _ _ h => .base (.lst h), kt_l, ⟨true, by decide +kernel⟩, ⟨false, by decide +kernel⟩⟩
      | false => exact ⟨"tuple", fun _ _ _ h => .base (.tup h), kt_t, ⟨false, by decide +kernel⟩, ⟨true, by decide +kernel⟩⟩
    obtain ⟨⟨c1, k2⟩, ⟨c2, k3⟩⟩ := And.intro k2 k3
    refine ⟨_, (pss_cons (ps_if (PW.pt (pw_or (pt_cmpR op_isN (pv 1) pe_non (nomark _)) (pw_or1 (pt_cmpR op_isN (pv 0) pe_non (nomark _))))) (pss_one (ps_ret (pe_and (pe_cmpR op_isN (pv 0) pe_non (nomark _)) (pe_one (pe_cmpR op_isN (pv 1) pe_non (nomark _)))))) pss_nil)
    (pss_cons (ps_if (pt_val (pe_callB (r := rIsiT K) call_isiT (by rfl) T.isinstance (by decide +kernel) (pa_cons (pv 1) (pa_cons (pe_tup (pa_cons (pe_bltn (v := .ty "list") (u := .type "list") (by rfl) T.list (by decide +kernel) rfl) (pa_cons (pe_bltn (v := .ty "tuple") (u := .type "tuple") (by rfl) T.tuple (by decide +kernel) rfl) pa_nil))) pa_nil)))) (pss_cons (ps_if (PW.pt (pw_or (pt_cmpR op_ne (pe_callB (r := rIsi K) call_isi (by rfl) T.isinstance (by decide +kernel) (pa_cons (pv 0) (pa_cons (pe_bltn (v := .ty "list") (u := .type "list") (by rfl) T.list (by decide +kernel) rfl) pa_nil))) (pe_callB (r := rIsi K) call_isi (by rfl) T.isinstance (by decide +kernel) (pa_cons (pv 1) (pa_cons (pe_bltn (v := .ty "list") (u := .type "list") (by rfl) T.list (by decide +kernel) rfl) pa_nil))) (nomark _)) (pw_or1 (pt_cmpR op_ne (pe_callB (r := rIsi K) call_isi (by rfl) T.isinstance (by decide +kernel) (pa_cons (pv 0) (pa_cons (pe_bltn (v := .ty "tuple") (u := .type "tuple") (by rfl) T.tuple (by decide +kernel) rfl) pa_nil))) (pe_callB (r := rIsi K) call_isi (by rfl) T.isinstance (by decide +kernel) (pa_cons (pv 1) (pa_cons (pe_bltn (v := .ty "tuple") (u := .type "tuple") (by rfl) T.tuple (by decide +kernel) rfl) pa_nil))) (nomark _))))) (pss_one (ps_ret pe_bl)) pss_nil)
    (pss_one (ps_ret (pe_and (pe_cmpR op_eq (pe_callB (r := rLenK K) call_len_seq (by rfl) T.len (by decide +kernel) (pa_cons (pv 0) pa_nil)) (pe_callB (r := rLenK K) call_len_seq (by rfl) T.len (by decide +kernel) (pa_cons (pv 1) pa_nil)) (nomark _)) (pe_one (pe_callB (r := rAll K) (cr_all rfl) (by rfl) T.all (by decide +kernel) (pa_cons (pe_lc (own := [("_law_k", 2)]) (g := gName 2) (tt := tYes) rfl sc_same.nd (pi_range1 rfl T.range (pa_cons (pe_callB (r := rLenK K) call_len_seq (by rfl) T.len (by decide +kernel) (pa_cons (pv 1) pa_nil)) pa_nil)) (blkOk_by (own := [("_law_k", 2)]) (N := ["_law_found", "_law_due", "_law_k"]) (sc := defScope s_same) (by decide +kernel)) (fun _ _ _ _ _ => (pg_name (i := 2) sc_same.nd rfl (Or.inl rfl))) (fun _ _ _ _ _ => pts_nil) (fun _ _ _ _ _ => (pe_call G hr rfl T.d_same.m T.d_same.F.kp T.d_same.b .nil pass0 (pa_cons (pe_ix (r := rIx K) ix_seq (pv 0) (pv 2) (fun _ _ => rfl)) (pa_cons (pe_ix (r := rIx K) ix_seq (pv 1) (pv 2) (fun _ _ => rfl)) pa_nil))))) pa_nil))))))) pss_nil)
    (pss_cons (ps_if (PW.pt (pw_or (pt_cmpR op_ne (pe_callB (r := rIsi K) call_isi (by rfl) T.isinstance (by decide +kernel) (pa_cons (pv 1) (pa_cons (pe_bltn (v := .ty "bool") (u := .type "bool") (by rfl) T.bool (by decide +kernel) rfl) pa_nil))) (pe_callB (r := rIsi K) call_isi (by rfl) T.isinstance (by decide +kernel) (pa_cons (pv 0) (pa_cons (pe_bltn (v := .ty "bool") (u := .type "bool") (by rfl) T.bool (by decide +kernel) rfl) pa_nil))) (nomark _)) (pw_or1 (pt_cmpR op_ne (pe_callB (r := rIsi K) call_isi (by rfl) T.isinstance (by decide +kernel) (pa_cons (pv 1) (pa_cons (pe_bltn (v := .ty "int") (u := .type "int") (by rfl) T.int (by decide +kernel) rfl) pa_nil))) (pe_callB (r := rIsi K) call_isi (by rfl) T.isinstance (by decide +kernel) (pa_cons (pv 0) (pa_cons (pe_bltn (v := .ty "int") (u := .type "int") (by rfl) T.int (by decide +kernel) rfl) pa_nil))) (nomark _))))) (pss_one (ps_ret pe_bl)) pss_nil)
    (pss_one (ps_ret (pe_and (pe_cmpR op_eq (pe_callB (r := rIsi K) call_isi (by rfl) T.isinstance (by decide +kernel) (pa_cons (pv 1) (pa_cons (pe_bltn (v := .ty "str") (u := .type "str") (by rfl) T.str (by decide +kernel) rfl) pa_nil))) (pe_callB (r := rIsi K) call_isi (by rfl) T.isinstance (by decide +kernel) (pa_cons (pv 0) (pa_cons (pe_bltn (v := .ty "str") (u := .type "str") (by rfl) T.str (by decide +kernel) rfl) pa_nil))) (nomark _)) (pe_one (pe_cmpR op_eq (pv 0) (pv 1) (nomark _))))))))), ?_⟩
    refine ⟨_, rfl, rfl, _, rfl, iteF ?_⟩
    refine ⟨_, rfl, rfl, _, rfl, iteF ?_⟩
    refine ⟨_, rfl, sl_small (by decide), fun p hp => ?_⟩
    have s1 : Same H (upd H p (.tup [V.ty "list", V.ty "tuple"])) := Same.new hp _
    refine ⟨_, p, _, _, _, true, rfl, upd_same, cls2, ty _ _ _ (s1 _ _ hb), k1, _, rfl, iteT ?_⟩
    refine ⟨_, rfl, _, _, _, _, _, rfl, .ty _, ty _ _ _ (s1 _ _ ha), kit_ty k2, _, rfl, _, _, _, _, _, rfl, .ty _, ty _ _ _ (s1 _ _ hb), kit_ty k2, rfl, _, rfl, ?_⟩
    rw [ne_bl]
    refine iteF ⟨_, rfl, _, _, _, _, _, rfl, .ty _, ty _ _ _ (s1 _ _ ha), kit_ty k3, _, rfl, _, _, _, _, _, rfl, .ty _, ty _ _ _ (s1 _ _ hb), kit_ty k3, rfl, _, rfl, ?_⟩
    rw [ne_bl]
    refine iteF ⟨_, rfl, a, _, rfl, seq (s1 _ _ ha), _, rfl, b, _, rfl, seq (s1 _ _ hb), rfl, _, rfl, ?_⟩
    rw [hlen, decide_eq_true rfl]
    refine iteT ⟨_, rfl, b, _, rfl, seq (s1 _ _ hb), _, rfl, by omega, by omega, fun D hD => ?_⟩
    have s2 := s1.set (s1.free hD)
    refine lc_range (lo := 0) (n := ((ys.length : Nat) : Int).toNat) (fun i H' => Same H H' ∧ H' D = some (.lst (List.replicate i (V.bl true)))) ⟨s2 _, upd_same⟩ ?_ ?_
    · rintro i H' hi ⟨s3, hD'⟩
      have hi : i < ys.length := by omega
      obtain ⟨v, hv, he⟩ := paired_at hP (List.getElem?_eq_getElem hi)
      refine ⟨rfl, ?_⟩
      refine ⟨_, rfl, _, rfl, ixs (s3 _ _ ha) hv ⟨_, rfl, _, rfl, ixs (s3 _ _ hb) (List.getElem?_eq_getElem hi) ?_⟩⟩
      refine ⟨_, _, rfl, he.mono s3, fun H2 s4 => ?_⟩
      refine ⟨_, s4 _ _ hD', by rw [List.length_replicate]; exact sl_lt (by omega), (s3.trans s4).set (s1.free hD) _, ?_⟩
      rw [upd_same, List.replicate_succ']
    · rintro H' ⟨s3, hD'⟩
      refine ⟨D, List.replicate ys.length true, rfl, SqL.of (by rw [hD', List.map_replicate]; rfl), ?_⟩
      have e : (List.replicate ys.length true).all id = true := by
        rw [List.all_replicate]
        cases ys.length <;> rfl
      rw [e]
      exact q _ s3
theorem ok_same_at (T : Txt K mg A) : ∀ n : Nat, FnOk P w K mg base CX0 (n + 1) A.f_same A.fd_same ["_law_found", "_law_due"] (spSame K n)
  | 0 => ok_same_step T 0 fun m e => nomatch e
  | n + 1 => ok_same_step T (n + 1) fun m e => by
    have e2 : m = n := by omega
    subst e2
    exact ok_same_at T m
/-- data of at most nine levels -/
theorem ok_same (T : Txt K mg A) : FnOk P w K mg base CX0 10 A.f_same A.fd_same ["_law_found", "_law_due"] (spSame K 9) := ok_same_at T 9
end

-- CUT
/-! ## Errors of the program's own: made by the __init__ of the class above, raised, caught by one of two classes, their fields read -/
namespace EX
open PySem PySem.Spec PyProof.Rows L2
section
variable {X : Cx} {e : Expr} {es : List Expr} {ta : TA} {p p1 p2 pos : Pos}
/-- C.m(e, ..), m a def of the class C -/
theorem pe_indef {CX : CXT} {x m : Str} {C g : Addr} {mc : Value} {k : Nat} {fd : FuncData} {ps : List Str} {sp : Sp} {E : XK} {ds : List Value} {dvs : List V} {pl : Sem Bool} (r : ClX.CRead X.K C mc) (c : ClX.CVal X.K C mc m (.ref g) (.ref g))
    (hk : PySem.W.keepIn X.K (.ref g) = true) (F : FnOk X.prog X.w X.K X.mg X.base CX k g fd ps sp) (hr : Room k X.A) (hb : Binds X.K fd ps ds) (hd : Vals dvs ds) (hx : Passes CX X E) (hg : Gl X x) (hm : X.mg x = some (.ref C)) (ha : PA X (e :: es) ta)
    (hdb : (x == ("__debug__" : Str)) = false := by decide)
    (hc : eval (.Call (.Attribute (.Name x p1) m p2) (e :: es) [] pos) X.env = (do
      let ov ← eval (.Name x p1) X.env
      standAt p2.atName
      let (f, first) ← holding [ov] (getMethod ov m pl)
      callWith pos f first (backTo pos (starEach (e :: es) X.env)) (backToKw pos (keywordEach [] X.env))) := by rfl)
    (he : starEach (e :: es) X.env = (false, eval e X.env) :: starEach es X.env := by rfl) (hpl : (backTo pos (starEach es X.env)).any (·.1) = false := by rfl) :
    PE X (.Call (.Attribute (.Name x p1) m p2) (e :: es) [] pos) (tCall sp dvs E ta) := by
  refine ⟨fun pins s σ H Q I h => ?_⟩
  refine PySem.W.methodCall_KW (ld_glob I hg hm ?_ hdb) hc
  refine PySem.W.method_cls I.kIn r.ga (ClX.getcval_ok I r c fun s1 I1 => ?_)
  refine PySem.W.callWith_K (h₀ := X.base) I1.ok.mod.kin hk (thn (ha.run pos pins s1 σ H _ I1 h) fun us s2 ⟨vs, H2, I2, rv, q⟩ => ⟨I2.kIn, ?_⟩) he hpl
  exact run_fn F hr hb hd hx I2 rv q
/-- C(), C's __init__ keeping sp -/
def tMk0 (C : Addr) (sp : Sp) : L2.St → Hp → XK → Prop := fun _ H Q => ∀ a, H a = none → sp [.ref a] (upd H a (exo a C none))
  (fun v H2 => v = .non ∧ ∃ (d : Addr) (fs : List (Str × V)), H2 a = some (exo a C (some d)) ∧ H2 d = some (exd d fs) ∧ H d = none ∧ Q (.ref C) (some d) (upd (del H2 a) d (.xd fs))) (fun _ _ _ => False)
theorem pmk_own0 {CX : CXT} {x : Str} {C fI : Addr} {k : Nat} {fd : FuncData} {ps : List Str} {sp : Sp} (T : OexC X.K C) (iC : PySem.W.findIn X.K (.ref C) "__init__" = some (some (.ref fI))) (tI : PySem.W.typeIn X.K (.ref fI) = some (.type "function"))
    (F1 : FnOk X.prog X.w X.K X.mg X.base CX k fI fd ps sp) (hr : Room (k + 1) X.A) (hb : Binds X.K fd ps []) (hx : Passes CX X (fun _ _ _ => False)) (hg : Gl X x) (hm : X.mg x = some (.ref C)) (hdb : (x == ("__debug__" : Str)) = false := by decide) :
    PMk X (.Call (.Name x p) [] [] pos) (tMk0 C sp) := by
  intro pins s σ H Q I h
  obtain ⟨nm, q, N, bs, bm, sn, sub, ab, col, dd, k0, k1, k2, k3, k5, hC, hbm⟩ := T.cls
  refine wpAny_Call_Name_kw (ld_glob I hg hm ?_ hdb)
  refine PySem.W.callWith_K0 I.kIn T.kC ?_
  obtain ⟨hp, g, dr, tk, os⟩ := s
  have up : hp.objs.size ≤ hp.objs.size + 1 := Nat.le_succ _
  have free : H (hp.objs.size + 1) = none := I.hok.fresh up
  have hq := h (hp.objs.size + 1) free
  have kk : ∀ b o, hp.get? b = some o → ((hp.push (PySem.W.kdv_tup [])).push (PySem.HandSPX.excO C hp.objs.size)).get? b = some o := fun b o z => Heap.get?_push_of_some _ (Heap.get?_push_of_some _ z)
  have here : ((hp.push (PySem.W.kdv_tup [])).push (PySem.HandSPX.excO C hp.objs.size)).get? (hp.objs.size + 1) = some (PySem.HandSPX.excO C hp.objs.size) := by heap_get
  have J : Inv X pins σ (upd H (hp.objs.size + 1) (exo (hp.objs.size + 1) C none)) ⟨(hp.push (PySem.W.kdv_tup [])).push (PySem.HandSPX.excO C hp.objs.size), g, dr, tk, os⟩ := I.laid (t' := tk) kk up (exo_ok here)
  have one : (1 : Nat) = ps.length := F1.len _ _ _ _ hq
  refine wpAny_call (PySem.HandSPX.call_own F.excBase_ValueError (fun Y => PySem.HandSPX.refsVE_contains Y bm hbm) (I.kIn _ _ hC) (PySem.W.looks_findIn I.kIn iC) (fun self => PySem.W.bind_fn I.kIn self tI) (Nat.zero_le _)
    (codeAny_mono (F1.run _ X.stack _ _ ⟨[Value.ref (hp.objs.size + 1)], []⟩ [Value.ref (hp.objs.size + 1)] [V.ref (hp.objs.size + 1)] _ (fun _ _ _ => False) (hr.make C [] []) (J.env0.make C [] []) ?_ (.cons rfl .nil) hq) fun r s' hq' => ?_))
  · exact hb _ [Value.ref (hp.objs.size + 1)] J.kIn (by simpa using one)
  cases r with
  | error er => exact hx pins σ _ _ er s' J hq'
  | ok fl =>
    cases fl with
    | ret u =>
      obtain ⟨v, H2, os2, bare2, un2, hok2, rv, ev, d, fs, ea, ed, hd1, q2⟩ := hq'
      subst ev
      obtain ⟨h2, g2, d2, t2, os'⟩ := s'
      exact ⟨rv, mk_end (raises_own T.exC T.tyC) I up kk un2 hok2 os2 bare2 ea ed hd1 q2⟩
    | next => exact False.elim hq'
    | brk => exact False.elim hq'
    | cont => exact False.elim hq'
/-- e.f, e the exception that the context bears -/
theorem pe_field {a C : Addr} {oe : Obj} {cls : Value} {d : Option Addr} {te : TE} {n : Str} (T : XfC X.K C) (hno : PySem.W.findIn X.K (.ref C) n = some none) (hz : Zc cls d oe) (hf : ∃ vs, oe.data = .fields vs) (hp : (a, oe) ∈ X.pn) (he : PE X e te)
    (hb : attributeBase e n X.env (eval e X.env) = eval e X.env := by rfl) : PE X (.Attribute e n pos) (tXf a cls d C n te) := by
  refine ⟨fun pins s σ H Q I h => attr_of hb (thn (he.run pins s σ H _ I h) fun u s1 hh => ?_)⟩
  obtain ⟨x, H1, I1, rx, ex, ec, dd, fs, v, ed, ea, l, q⟩ := hh
  subst ex ec ed
  cases rx
  have at_ := (I1.pin (a, oe) (List.mem_append_left _ hp)).1
  obtain ⟨vs, hd⟩ := hf
  have hx : ObjOk X.prog X.w H1 s1.heap dd (.xd fs) := I1.hok dd _ ea
  obtain ⟨mA, hns, hr⟩ := hx
  obtain ⟨od, ho, hl⟩ := lookIn_ns hns
  obtain ⟨u, hu, ru⟩ := RelO.some_of (v := v) (o := mA n) (by rw [← l]; exact hr n)
  have J : PySem.W.InstAt s1.heap a oe C (some od) := by
    refine ⟨at_, hz.1, ?_, by rw [hz.2]; exact ho⟩
    unfold PySem.W.notCls
    rw [hd]
  exact HandSPX.exc_get I1.kIn J T.ga T.gg T.exC (PySem.W.findObj_own T.hdC hno rfl (by rw [hl, hu])) (handed_of ru) ⟨v, H1, I1.tok _, ru, q⟩
end
end EX

/-! ## Errors of the program's own as values: made, given fields, read, asked for their class; over any built-in base -/
namespace EXV
open PySem PySem.Spec PyProof.Rows L2
/-- own classes, then the base's line -/
inductive Line (tl : List Value) : List Value → Prop
  | base : Line tl tl
  | own {c : Addr} {r : List Value} : Line tl r → Line tl (.ref c :: r)
theorem Line.has {tl l : List Value} (h : Line tl l) (X : String) : l.contains (.type X) = tl.contains (.type X) := by
  induction h with
  | base => rfl
  | own _ ih => rw [List.contains_cons, ih]; rfl
theorem Line.full {tl l : List Value} (h : Line tl l) (n : tl.isEmpty = false) : l.isEmpty = false := by
  cases h with
  | base => exact n
  | own _ => rfl
theorem Line.pass {tl l : List Value} (h : Line tl l) {self : Value} (p : refuseLoop self "__setattr__" tl = pure ()) : refuseLoop self "__setattr__" l = pure () := by
  induction h with
  | base => exact p
  | own _ ih => rw [refuseLoop_ref]; exact ih
theorem Line.ve {l : List Value} : PySem.HandSPX.refsVE l = true → Line PySem.HandSPX.veTail l := by
  induction l with
  | nil => intro e; exact absurd e (by decide)
  | cons a r ih =>
    intro e
    rcases PySem.HandSPX.refsVE_cases (a :: r) e with ⟨c, r', q, h⟩ | q
    · obtain ⟨rfl, rfl⟩ := List.cons.inj q
      exact .own (ih h)
    · rw [q]; exact .base
/-- what a base must have -/
structure Base (B nw ini : String) (tl : List Value) : Prop where
  F : ExcBaseFacts B nw ini tl
  full : tl.isEmpty = false
  obj : tl.contains (.type "object") = true
  pass : ∀ self, refuseLoop self "__setattr__" tl = pure ()
theorem base_ve : Base "ValueError" "ValueError.__new__" "ValueError.__init__" PySem.HandSPX.veTail := ⟨F.excBase_ValueError, rfl, by decide +kernel, fun self => F.store_ValueError.passes self⟩
abbrev leTail : List Value := [.type "LookupError", .type "Exception", .type "BaseException", .type "object"]
theorem base_le : Base "LookupError" "LookupError.__new__" "LookupError.__init__" leTail := ⟨F.excBase_LookupError, rfl, by decide +kernel, fun self => by kernel_rfl⟩
/-! ### fields of such an object -/
section
open PySem.W Builtin Builtin.ObjectAttr
variable {prog : Program} {w : World} {A : Around} {R : Result → Shared → Prop} {hp : Heap} {g : Array GenState} {d : Drawn} {t : Nat} {os : OsState} {tl : List Value}
theorem osa_new {K : W.Frag} {name : Str} {tk : Tok} {v : Value} {x C : Addr} {fv : Array Value} {cd : ClassData} {B nw ini : String} (G : Base B nw ini tl)
    (X : K.In hp) (hx : hp.get? x = some { cls := .ref C, data := .fields fv }) (hcd : W.clsIn K C = some cd) (hm : Line tl cd.mro) (hh : cd.hasDict = true) (ha : W.findIn K (.ref C) name = some none)
    (hq : ∀ h' tk' dx, (∀ b o, b ≠ x → hp.get? b = some o → h'.get? b = some o) → hp.objs.size ≤ dx → dx ≠ x → h'.get? x = some { cls := .ref C, dict := some dx, data := .fields fv } →
      h'.Ns1 dx (fun y => if y = name then some v else none) → R (.ok (.ret .none)) ⟨h', g, d, tk', os⟩) :
    codeAny (model prog w) A (.call (.builtin "object.__setattr__") ⟨[.ref x, .str name tk, v], []⟩) R ⟨hp, g, d, t, os⟩ := by
  have I : W.InstAt hp x { cls := .ref C, data := .fields fv } C none := ⟨hx, rfl, rfl, trivial⟩
  have SF := F.store_object
  have ne := hm.full G.full
  have hob : cd.mro.contains (.type "object") = true := (hm.has "object").trans G.obj
  have hxs : x ≠ hp.objs.size := Nat.ne_of_lt (Heap.lt_size hx)
  have sub : W.Looks (model prog w) hp (isInstance (.ref x) (.type "object")) true := I.type.andThen (W.looks_mroIn X (by unfold W.mroIn; rw [hcd, Option.bind_some, if_neg (by rw [ne]; decide), hob]))
  refine codeAny_call_builtin SF.slot.plain SF.entry (@W.check_slot (model prog w) _ _ ⟨hp, g, d, t, os⟩ "object.__setattr__" "object" "__setattr__" (.ref x) [.str name tk, v] [] _ SF.kind SF.split sub (SF.args (.ref x) (.str name tk) v) ?_)
  have hmr : W.Looks (model prog w) hp (mroOf (.ref C)) cd.mro := (W.looks_clsIn X hcd).andThen .now
  have L3 : W.Looks (model prog w) hp (storeTaker? none) none := .now
  have hcls : W.Looks (model prog w) hp (classData C) cd := W.looks_clsIn X hcd
  rw [W.osa_eq, refuse_eq]
  refine wpAny_bind (wpAny_bind (I.type.at (wpAny_bind (hmr.at ?_))))
  rw [hm.pass (G.pass _)]
  refine wpAny_pure (wpAny_bind (I.type.at (wpAny_bind ((W.looks_findIn X ha).at (wpAny_bind (L3.at ?_))))))
  show wpAny _ _ (storeInOwnDict (.ref x) (.ref C) (.str name tk) name v false) _ _ _
  obtain ⟨nm, bs, mro, ns, qn, hd, sn, sb, ab, col, del⟩ := cd
  dsimp only at hh
  subst hh
  unfold storeInOwnDict ownDictForStores
  repeat (first | with_reducible refine HandSPX.store_in_new ?_ ?_ | with_reducible refine wpAny_loadPart_at hx ?_ | with_reducible refine hcls.at ?_ | wp_step)
  · exact ⟨_, #[], _, (Heap.get?_update_ne _ _ _ _ hxs.symm).trans (Heap.get?_push_at rfl rfl), rfl, fun e he => absurd he (by simp), fun _ => rfl⟩
  · intro h' tk' hn' hs
    have hx₁ : (hp.push { cls := .type "dict", data := .dict #[] }).get? x = some { cls := .ref C, data := .fields fv } := Heap.get?_push_of_some _ hx
    refine hq h' tk' hp.objs.size (fun b o hb ho => ?_) (Nat.le_refl _) hxs.symm ?_ hn'
    · exact (hs.2 b (Nat.ne_of_lt (Heap.lt_size ho))).trans ((Heap.get?_update_ne _ _ _ _ hb).trans (Heap.get?_push_of_some _ ho))
    · exact (hs.2 x hxs).trans (Heap.get?_update_self _ hx₁ rfl)
theorem osa_old {K : W.Frag} {name : Str} {tk : Tok} {v : Value} {x C dx : Addr} {fv : Array Value} {cd : ClassData} {m0 : Str → Option Value} {nl : List Str} {B nw ini : String} (G : Base B nw ini tl)
    (X : K.In hp) (hx : hp.get? x = some { cls := .ref C, dict := some dx, data := .fields fv }) (hns : hp.Ns1 dx m0) (hw : Within m0 nl) (hz : nl.length ≤ 1000) (hcd : W.clsIn K C = some cd) (hm : Line tl cd.mro) (hh : cd.hasDict = true)
    (ha : W.findIn K (.ref C) name = some none)
    (hq : ∀ h' tk', (∀ b o, b ≠ dx → hp.get? b = some o → h'.get? b = some o) → h'.Ns1 dx (fun y => if y = name then some v else m0 y) → R (.ok (.ret .none)) ⟨h', g, d, tk', os⟩) :
    codeAny (model prog w) A (.call (.builtin "object.__setattr__") ⟨[.ref x, .str name tk, v], []⟩) R ⟨hp, g, d, t, os⟩ := by
  obtain ⟨oD, esD, epD, hoD, hdD, _⟩ := hns.count hw
  have I : W.InstAt hp x { cls := .ref C, dict := some dx, data := .fields fv } C (some oD) := ⟨hx, rfl, rfl, hoD⟩
  have SF := F.store_object
  have ne := hm.full G.full
  have hob : cd.mro.contains (.type "object") = true := (hm.has "object").trans G.obj
  have sub : W.Looks (model prog w) hp (isInstance (.ref x) (.type "object")) true := I.type.andThen (W.looks_mroIn X (by unfold W.mroIn; rw [hcd, Option.bind_some, if_neg (by rw [ne]; decide), hob]))
  refine codeAny_call_builtin SF.slot.plain SF.entry (@W.check_slot (model prog w) _ _ ⟨hp, g, d, t, os⟩ "object.__setattr__" "object" "__setattr__" (.ref x) [.str name tk, v] [] _ SF.kind SF.split sub (SF.args (.ref x) (.str name tk) v) ?_)
  have hmr : W.Looks (model prog w) hp (mroOf (.ref C)) cd.mro := (W.looks_clsIn X hcd).andThen .now
  have L3 : W.Looks (model prog w) hp (storeTaker? none) none := .now
  have hcls : W.Looks (model prog w) hp (classData C) cd := W.looks_clsIn X hcd
  rw [W.osa_eq, refuse_eq]
  refine wpAny_bind (wpAny_bind (I.type.at (wpAny_bind (hmr.at ?_))))
  rw [hm.pass (G.pass _)]
  refine wpAny_pure (wpAny_bind (I.type.at (wpAny_bind ((W.looks_findIn X ha).at (wpAny_bind (L3.at ?_))))))
  show wpAny _ _ (storeInOwnDict (.ref x) (.ref C) (.str name tk) name v false) _ _ _
  obtain ⟨nm, bs, mro, ns, qn, hd, sn, sb, ab, col, del⟩ := cd
  dsimp only at hh
  subst hh
  unfold storeInOwnDict ownDictForStores
  repeat (first | with_reducible refine OEX.store_in_old hns hw hz ?_ | with_reducible refine wpAny_loadPart_at hx ?_ | with_reducible refine hcls.at ?_ | wp_step)
  intro h' tk' hn' hs
  exact hq h' tk' (fun b o hb ho => (hs.2 b hb).trans ho) hn'
end
/-- what the written part says of the class at C, over the base nw -/
structure OexG (K : PySem.W.Frag) (nw : String) (tl : List Value) (C : Addr) : Prop where
  cls : ∃ nm q N bs bm sn sub ab col dd k0 k1 k2 k3 k5, K.lookup C = some (excClassObj nm q C N bs bm true sn sub ab col dd k0 k1 k2 k3 k5 nw) ∧ Line tl bm
  sa : PySem.W.findIn K (.ref C) "__setattr__" = some (some (.builtin "object.__setattr__"))
  kC : PySem.W.keepIn K (.ref C) = true
theorem OexG.of {K : PySem.W.Frag} {C : Addr} (T : OexC K C) : OexG K "ValueError.__new__" PySem.HandSPX.veTail C := by
  obtain ⟨nm, q, N, bs, bm, sn, sub, ab, col, dd, k0, k1, k2, k3, k5, hC, hbm⟩ := T.cls
  exact ⟨⟨nm, q, N, bs, bm, sn, sub, ab, col, dd, k0, k1, k2, k3, k5, hC, Line.ve hbm⟩, T.sa, T.kC⟩
section
variable {X : Cx} {pins : List (Addr × Obj)} {σ : L2.St} {H : Hp} {s : Shared} {a C dx : Addr} {f : Str} {y : V} {u : Value} {fs : List (Str × V)} {Q : Unit → Shared → Prop} {E : Value → Shared → Prop} {A : Around} {B nw ini : String} {tl : List Value}
theorem ost_new (G : Base B nw ini tl) (T : OexG X.K nw tl C) (I : Inv X pins σ H s) (e : H a = some (exo a C none)) (hno : PySem.W.findIn X.K (.ref C) f = some none) (ry : RelV y u)
    (h : ∀ dx s', H dx = none → dx ≠ a → Inv X pins σ (upd (upd H dx (exd dx [(f, y)])) a (exo a C (some dx))) s' → Q () s') : wpAny (model X.prog X.w) A (setAttr (.ref a) f u) Q E s := by
  obtain ⟨nm, q, N, bs, bm, sn, sub, ab, col, dd, k0, k1, k2, k3, k5, hC, hbm⟩ := T.cls
  have hcl : PySem.W.clsIn X.K C = some { name := nm, bases := bs, mro := .ref C :: bm, ns := N, qualname := q, hasDict := true, slotNames := sn, subclasses := sub, abstract := ab, collection := col, hasDel := false } := by unfold PySem.W.clsIn; rw [hC] <;> rfl
  obtain ⟨t1, ho⟩ := exo_at I.hok e
  obtain ⟨hp, g, d, t, os⟩ := s
  refine PySem.W.set_plain I.kIn (ox := { cls := .ref C, dict := none, data := .fields #[.ref t1, .none, .none, .none, .bool false, .none] }) (od := none) ⟨ho, rfl, rfl, trivial⟩ T.sa ?_
  refine osa_new G I.kIn ho hcl (.own hbm) rfl hno (fun h' tk' dx k dn dne hx hn => ?_)
  have hnd : H dx = none := I.hok.fresh dn
  have nd : ∀ {b : Addr} {o : Obj}, hp.get? b = some o → b ≠ dx := fun {b o} q => Nat.ne_of_lt (Nat.lt_of_lt_of_le (Heap.lt_size q) dn)
  have na : ∀ {b : Addr}, H b = none → b ≠ a := fun {b} n z => by
    rw [z, e] at n
    cases n
  have U : Un X.fs [] H (upd (upd H dx (exd dx [(f, y)])) a (exo a C (some dx))) hp h' := {
    keep := fun b o q n _ _ => k b o (na n) q
    slot := fun b o q n _ _ => ⟨o.slots, k b o (na n) q⟩
    free := fun b o q n _ => by rw [upd_ne (na n), upd_ne (nd q)]; exact n
    there := fun b o q _ => by
      by_cases hb : b = a
      · exact ⟨_, by rw [hb]; exact hx⟩
      · exact ⟨o, k b o hb q⟩
    tups := fun b xs q => by rw [upd_ne (at_ne e q exo_tup), upd_ne (ne_of_none q hnd)]; exact q
    frzs := fun b o v q => by rw [upd_ne (at_ne e q exo_frz), upd_ne (ne_of_none q hnd)]; exact q
    tbls := fun b ps q => ⟨#[], by rw [upd_ne (at_ne e q exo_tbl), upd_ne (ne_of_none q hnd), q]; simp⟩ }
  refine h dx _ hnd dne (I.un (t' := tk') U fun b o q => ?_)
  by_cases hb : b = a
  · subst hb
    rw [upd_same] at q
    cases q
    exact exo_ok hx
  · rw [upd_ne hb] at q
    by_cases hd : b = dx
    · subst hd
      rw [upd_same] at q
      cases q
      exact exd_ok hn (relO_put (fs := []) ry fun g => True.intro)
    · rw [upd_ne hd] at q
      exact (I.hok b o q).stay (fun c v hc z => k c v (by
          rcases hc with hc | hc
          · rw [hc]
            exact hb
          · exact at_ne e hc exo_own) z)
        (fun c hc => by rw [upd_ne (at_ne e hc exo_own), upd_ne (ne_of_none hc hnd)]; exact hc) (fun c xs hc => by rw [upd_ne (at_ne e hc exo_tup), upd_ne (ne_of_none hc hnd)]; exact hc)
theorem ost_old (G : Base B nw ini tl) (T : OexG X.K nw tl C) (I : Inv X pins σ H s) (e : H a = some (exo a C (some dx))) (ed : H dx = some (exd dx fs)) (hl : fs.length ≤ 900) (hno : PySem.W.findIn X.K (.ref C) f = some none) (ry : RelV y u)
    (h : ∀ s', Inv X pins σ (upd H dx (exd dx ((f, y) :: fs))) s' → Q () s') : wpAny (model X.prog X.w) A (setAttr (.ref a) f u) Q E s := by
  obtain ⟨nm, q, N, bs, bm, sn, sub, ab, col, dd, k0, k1, k2, k3, k5, hC, hbm⟩ := T.cls
  have hcl : PySem.W.clsIn X.K C = some { name := nm, bases := bs, mro := .ref C :: bm, ns := N, qualname := q, hasDict := true, slotNames := sn, subclasses := sub, abstract := ab, collection := col, hasDel := false } := by unfold PySem.W.clsIn; rw [hC] <;> rfl
  obtain ⟨t1, ho⟩ := exo_at I.hok e
  obtain ⟨mA, hns, rel⟩ := exd_at I.hok ed
  have hw := within_of rel
  obtain ⟨hp, g, d, t, os⟩ := s
  obtain ⟨oD, _, _, hoD, _, _⟩ := hns.count hw
  refine PySem.W.set_plain I.kIn (ox := { cls := .ref C, dict := some dx, data := .fields #[.ref t1, .none, .none, .none, .bool false, .none] }) (od := some oD) ⟨ho, rfl, rfl, hoD⟩ T.sa ?_
  refine osa_old G I.kIn ho hns hw (by rw [List.length_map]; omega) hcl (.own hbm) rfl hno (fun h' tk' k hn => ?_)
  have hd : ∃ o, h'.get? dx = some o := by
    obtain ⟨o, _, _, e', _⟩ := hn
    exact ⟨o, e'⟩
  exact h _ (I.write (t' := tk') (x := dx) (e := dx) (o := exd dx ((f, y) :: fs)) (by rw [ed]; exact True.intro) (.inl rfl) k hd (exd_ok hn (relO_put ry rel)))
theorem oinit_ok {us : List Value} {Q : Value → Shared → Prop} (G : Base B nw ini tl) (T : OexG X.K nw tl C) (I : Inv X pins σ H s) (e : H a = some (exo a C none)) (hl : us.length ≤ sizeLine) (h : ∀ s', Inv X pins σ H s' → Q .none s') :
    wpAny (model X.prog X.w) A (call (.builtin ini) (.ref a :: us)) Q E s := by
  obtain ⟨nm, q, N, bs, bm, sn, sub, ab, col, dd, k0, k1, k2, k3, k5, hC, hbm⟩ := T.cls
  obtain ⟨t1, ho⟩ := exo_at I.hok e
  obtain ⟨hp, g, d, t, os⟩ := s
  refine wpAny_call (PySem.HandSPX.init_base G.F (fun Y => hbm.has Y) (I.kIn _ _ hC) ho hl fun h' t2 k hx => ?_)
  have J := I.write (t' := t) (x := a) (e := a) (o := exo a C none) (by rw [e]; exact True.intro) (.inl rfl) k ⟨_, hx⟩ (exo_ok hx)
  have eu : upd H a (exo a C none) = H := by
    funext b
    by_cases hb : b = a
    · rw [hb, upd_same, e]
    · rw [upd_ne hb]
  rw [eu] at J
  exact h _ J
end
/-! ### readings and rules -/
/-- B.__init__(self, ..) -/
def tBIn (K : PySem.W.Frag) (nw : String) (tl : List Value) (ta : TA) : TE := fun σ H Q => ta σ H fun vs H1 => ∃ (a C : Addr) (ws : List V), vs = .ref a :: ws ∧ ws.length ≤ 1000 ∧ OexG K nw tl C ∧ H1 a = some (exo a C none) ∧ Q .non H1
/-- self.f = e -/
def tOstG (K : PySem.W.Frag) (nw : String) (tl : List Value) (f : Str) (to te : TE) : TS := fun D σ H => te σ H fun y H1 => to σ H1 fun x H2 => ∃ a C : Addr, x = .ref a ∧ OexG K nw tl C ∧ PySem.W.findIn K (.ref C) f = some none ∧
  ((H2 a = some (exo a C none) ∧ ∀ dx, H2 dx = none → dx ≠ a → D.nx σ (upd (upd H2 dx (exd dx [(f, y)])) a (exo a C (some dx)))) ∨
    ∃ (dx : Addr) (fs : List (Str × V)), H2 a = some (exo a C (some dx)) ∧ H2 dx = some (exd dx fs) ∧ fs.length ≤ 900 ∧ D.nx σ (upd H2 dx (exd dx ((f, y) :: fs))))
/-- C(e, ..), C's own __init__ keeping sp, as a value -/
def tNewE (C : Addr) (sp : Sp) (dvs : List V) (ta : TA) : TE := fun σ H Q => ta σ H fun vs H1 => vs.length ≤ 1000 ∧ ∀ a, H1 a = none → sp (.ref a :: (vs ++ dvs)) (upd H1 a (exo a C none)) (fun v H2 => v = .non ∧ Q (.ref a) H2) (fun _ _ _ => False)
/-- C() -/
def tNewE0 (C : Addr) (sp : Sp) : TE := fun _ H Q => ∀ a, H a = none → sp [.ref a] (upd H a (exo a C none)) (fun v H2 => v = .non ∧ Q (.ref a) H2) (fun _ _ _ => False)
/-- e.f, e such an object -/
def tFldE (K : PySem.W.Frag) (f : Str) (te : TE) : TE := fun σ H Q => te σ H fun x H1 => ∃ (a C dd : Addr) (fs : List (Str × V)) (v : V), x = .ref a ∧ XfC K C ∧ PySem.W.findIn K (.ref C) f = some none ∧ H1 a = some (exo a C (some dd)) ∧ H1 dd = some (exd dd fs) ∧ fs.lookup f = some v ∧ Q v H1
/-- isinstance(e, c), e such an object -/
def rIsO (K : PySem.W.Frag) : List V → Hp → VK → Prop := fun xs H Q => ∃ (a C dd : Addr) (fs : List (Str × V)) (c : V) (cv : Value) (b : Bool), xs = [.ref a, c] ∧ ExcC K C ∧ H a = some (exo a C (some dd)) ∧ H dd = some (exd dd fs) ∧ (∀ u, RelV c u → u = cv) ∧ PySem.W.kitOne K (.ref C) cv = some b ∧ Q (.bl b) H
section
variable {X : Cx} {o e : Expr} {es : List Expr} {to te : TE} {ta : TA} {f : Str} {p p' p1 p2 pos : Pos} {B nw ini : String} {tl : List Value}
theorem pe_binit {pl : Sem Bool} {x : Str} (G : Base B nw ini tl) (hst : Manifest.isStub B = false) (hin : PySem.W.handedIn (.builtin ini) = true) (hb : bootBuiltins x = some (.type B)) (ht : typeOf (.type B) = pure (.type "type")) (hg : Gl X x) (hm : X.mg x = none) (vV : PySem.W.findCls X.K (.type B) (.type "type") "__init__" = some (.val (.builtin ini))) (ha : PA X (e :: es) ta)
    (hnm : x ≠ "__name__") (hdb : (x == ("__debug__" : Str)) = false)
    (hc : eval (.Call (.Attribute (.Name x p1) "__init__" p2) (e :: es) [] pos) X.env = (do
      let ov ← eval (.Name x p1) X.env
      standAt p2.atName
      let (f, first) ← holding [ov] (getMethod ov "__init__" pl)
      callWith pos f first (backTo pos (starEach (e :: es) X.env)) (backToKw pos (keywordEach [] X.env))) := by rfl)
    (he : starEach (e :: es) X.env = (false, eval e X.env) :: starEach es X.env := by rfl) (hpl : (backTo pos (starEach es X.env)).any (·.1) = false := by rfl) :
    PE X (.Call (.Attribute (.Name x p1) "__init__" p2) (e :: es) [] pos) (tBIn X.K nw tl ta) := by
  refine ⟨fun pins s σ H Q I h => ?_⟩
  refine PySem.W.methodCall_KW (ld_blt I hg hm hb ?_ hnm hdb) hc
  obtain ⟨m, fr⟩ := I.fr
  refine PySem.W.method_type fr I.ok.mod.kin ht hst vV hin ?_
  show wpAny _ _ (callWith pos (Value.builtin ini) [] (backTo pos (starEach (e :: es) X.env)) []) _ _ _
  refine PyProof.Rows.callWith_method1 (thn (ha.run pos pins _ σ H _ (I.tok _) h) fun us s1 ⟨vs, H1, I1, r1, a, C, ws, ev, hl, T, ea, q⟩ => ?_) he hpl
  subst ev
  cases r1 with
  | @cons _ u0 _ ur ra rw' =>
    obtain rfl : u0 = Value.ref a := ra
    have hlen : ur.length ≤ sizeLine := by
      rw [← Paired.length rw', sizeLine_eq]
      omega
    exact oinit_ok G T I1 ea hlen fun s' J => ⟨.non, H1, J, rfl, q⟩
theorem ps_ostG (G : Base B nw ini tl) (ho : PE X o to) (he : PE X e te) (hs : swapsWith e (some (.Attribute o f p')) pos.line X.env = pure false := by rfl) : PS X (.Assign [.Attribute o f p'] e pos) (tOstG X.K nw tl f to te) := by
  refine ⟨fun pins s σ H D I h => ?_⟩
  refine plainObj_wpAny_Assign_Attribute (thn (he.run pins s σ H _ I h) fun v s1 ⟨y, H1, I1, r1, q1⟩ => thn (ho.run pins s1 σ H1 _ I1 q1) fun u s2 ⟨x, H2, I2, r2, a, C, ex, T, hno, q⟩ => ?_) hs
  subst ex
  obtain rfl : u = Value.ref a := r2
  rcases q with ⟨ea, q⟩ | ⟨dx, fs, ea, ed, hl, q⟩
  · exact ost_new G T I2 ea hno r1 fun dx s' n ne J => ⟨σ, _, J, q dx n ne⟩
  · exact ost_old G T I2 ea ed hl hno r1 fun s' J => ⟨σ, _, J, q⟩
theorem pe_newE {CX : CXT} {x : Str} {C fI : Addr} {k : Nat} {fd : FuncData} {ps : List Str} {sp : Sp} {ds : List Value} {dvs : List V} (G : Base B nw ini tl) (T : OexG X.K nw tl C) (iC : PySem.W.findIn X.K (.ref C) "__init__" = some (some (.ref fI))) (tI : PySem.W.typeIn X.K (.ref fI) = some (.type "function"))
    (F1 : FnOk X.prog X.w X.K X.mg X.base CX k fI fd ps sp) (hr : Room (k + 1) X.A) (hb : Binds X.K fd ps ds) (hd : Vals dvs ds) (hx : Passes CX X (fun _ _ _ => False)) (hg : Gl X x) (hm : X.mg x = some (.ref C)) (ha : PA X (e :: es) ta)
    (hdb : (x == ("__debug__" : Str)) = false := by decide) (he : starEach (e :: es) X.env = (false, eval e X.env) :: starEach es X.env := by rfl) (hpl : (backTo pos (starEach es X.env)).any (·.1) = false := by rfl) :
    PE X (.Call (.Name x p) (e :: es) [] pos) (tNewE C sp dvs ta) := by
  refine ⟨fun pins s σ H Q I h => ?_⟩
  obtain ⟨nm, q, N, bs, bm, sn, sub, ab, col, dd, k0, k1, k2, k3, k5, hC, hbm⟩ := T.cls
  refine wpAny_Call_Name_kw (ld_glob I hg hm ?_ hdb)
  refine PySem.W.callWith_K (h₀ := X.base) I.ok.mod.kin T.kC (thn (ha.run pos pins s σ H _ I h) fun us s1 ⟨vs, H1, I1, r1, hz, q1⟩ => ⟨I1.kIn, ?_⟩) he hpl
  show wpAny _ _ (call (.ref C) us) _ _ _
  obtain ⟨hp, g, dr, tk, os⟩ := s1
  have hsz : hp.objs.size ≤ hp.objs.size + 1 := Nat.le_succ _
  have hn : H1 (hp.objs.size + 1) = none := I1.hok.fresh hsz
  have hq := q1 (hp.objs.size + 1) hn
  have kk : ∀ b o, hp.get? b = some o → ((hp.push (PySem.W.kdv_tup us)).push (PySem.HandSPX.excO C hp.objs.size)).get? b = some o := fun b o e => Heap.get?_push_of_some _ (Heap.get?_push_of_some _ e)
  have hget : ((hp.push (PySem.W.kdv_tup us)).push (PySem.HandSPX.excO C hp.objs.size)).get? (hp.objs.size + 1) = some (PySem.HandSPX.excO C hp.objs.size) := by heap_get
  have I2 : Inv X pins σ (upd H1 (hp.objs.size + 1) (exo (hp.objs.size + 1) C none)) ⟨(hp.push (PySem.W.kdv_tup us)).push (PySem.HandSPX.excO C hp.objs.size), g, dr, tk, os⟩ :=
    I1.laid (t' := tk) (a := hp.objs.size + 1) (o := exo (hp.objs.size + 1) C none) (h' := (hp.push (PySem.W.kdv_tup us)).push (PySem.HandSPX.excO C hp.objs.size)) kk hsz (exo_ok hget)
  have r2 : Vals (V.ref (hp.objs.size + 1) :: (vs ++ dvs)) (Value.ref (hp.objs.size + 1) :: (us ++ ds)) := .cons rfl (r1.append hd)
  have hl : (Value.ref (hp.objs.size + 1) :: us ++ ds).length = ps.length := by
    have e := r2.length
    rw [F1.len _ _ _ _ hq] at e
    exact e.symm
  have hus : us.length ≤ sizeLine := by
    rw [← Paired.length r1, sizeLine_eq]
    omega
  refine wpAny_call (PySem.HandSPX.call_own G.F (fun Y => hbm.has Y) (I1.kIn _ _ hC) (PySem.W.looks_findIn I1.kIn iC) (fun self => PySem.W.bind_fn I1.kIn self tI) hus
    (codeAny_mono (F1.run _ X.stack _ _ ⟨Value.ref (hp.objs.size + 1) :: us, []⟩ (Value.ref (hp.objs.size + 1) :: (us ++ ds)) _ _ (fun _ _ _ => False) (hr.make C us []) (I2.env0.make C us []) (hb _ (Value.ref (hp.objs.size + 1) :: us) I2.kIn hl) r2 hq) fun r s' hq' => ?_))
  cases r with
  | error er => exact hx pins σ _ _ er s' I2 hq'
  | ok fl =>
    cases fl with
    | ret u =>
      obtain ⟨v, H2, os2, bare2, un2, hok2, rv, ev, q2⟩ := hq'
      subst ev
      obtain ⟨h2, g2, d2, t2, os'⟩ := s'
      exact ⟨rv, .ref (hp.objs.size + 1), H2, I2.call' (ch := []) os2 un2 hok2 bare2 (fun b z => absurd z (by simp)), rfl, q2⟩
    | next => exact False.elim hq'
    | brk => exact False.elim hq'
    | cont => exact False.elim hq'
theorem pe_newE0 {CX : CXT} {x : Str} {C fI : Addr} {k : Nat} {fd : FuncData} {ps : List Str} {sp : Sp} (G : Base B nw ini tl) (T : OexG X.K nw tl C) (iC : PySem.W.findIn X.K (.ref C) "__init__" = some (some (.ref fI))) (tI : PySem.W.typeIn X.K (.ref fI) = some (.type "function"))
    (F1 : FnOk X.prog X.w X.K X.mg X.base CX k fI fd ps sp) (hr : Room (k + 1) X.A) (hb : Binds X.K fd ps []) (hx : Passes CX X (fun _ _ _ => False)) (hg : Gl X x) (hm : X.mg x = some (.ref C)) (hdb : (x == ("__debug__" : Str)) = false := by decide) :
    PE X (.Call (.Name x p) [] [] pos) (tNewE0 C sp) := by
  refine ⟨fun pins s σ H Q I h => ?_⟩
  obtain ⟨nm, q, N, bs, bm, sn, sub, ab, col, dd, k0, k1, k2, k3, k5, hC, hbm⟩ := T.cls
  refine wpAny_Call_Name_kw (ld_glob I hg hm ?_ hdb)
  refine PySem.W.callWith_K0 I.kIn T.kC ?_
  obtain ⟨hp, g, dr, tk, os⟩ := s
  have up : hp.objs.size ≤ hp.objs.size + 1 := Nat.le_succ _
  have free : H (hp.objs.size + 1) = none := I.hok.fresh up
  have hq := h (hp.objs.size + 1) free
  have kk : ∀ b o, hp.get? b = some o → ((hp.push (PySem.W.kdv_tup [])).push (PySem.HandSPX.excO C hp.objs.size)).get? b = some o := fun b o z => Heap.get?_push_of_some _ (Heap.get?_push_of_some _ z)
  have here : ((hp.push (PySem.W.kdv_tup [])).push (PySem.HandSPX.excO C hp.objs.size)).get? (hp.objs.size + 1) = some (PySem.HandSPX.excO C hp.objs.size) := by heap_get
  have J : Inv X pins σ (upd H (hp.objs.size + 1) (exo (hp.objs.size + 1) C none)) ⟨(hp.push (PySem.W.kdv_tup [])).push (PySem.HandSPX.excO C hp.objs.size), g, dr, tk, os⟩ := I.laid (t' := tk) kk up (exo_ok here)
  have one : (1 : Nat) = ps.length := F1.len _ _ _ _ hq
  refine wpAny_call (PySem.HandSPX.call_own G.F (fun Y => hbm.has Y) (I.kIn _ _ hC) (PySem.W.looks_findIn I.kIn iC) (fun self => PySem.W.bind_fn I.kIn self tI) (Nat.zero_le _)
    (codeAny_mono (F1.run _ X.stack _ _ ⟨[Value.ref (hp.objs.size + 1)], []⟩ [Value.ref (hp.objs.size + 1)] [V.ref (hp.objs.size + 1)] _ (fun _ _ _ => False) (hr.make C [] []) (J.env0.make C [] []) ?_ (.cons rfl .nil) hq) fun r s' hq' => ?_))
  · exact hb _ [Value.ref (hp.objs.size + 1)] J.kIn (by simpa using one)
  cases r with
  | error er => exact hx pins σ _ _ er s' J hq'
  | ok fl =>
    cases fl with
    | ret u =>
      obtain ⟨v, H2, os2, bare2, un2, hok2, rv, ev, q2⟩ := hq'
      subst ev
      obtain ⟨h2, g2, d2, t2, os'⟩ := s'
      exact ⟨rv, .ref (hp.objs.size + 1), H2, J.call' (ch := []) os2 un2 hok2 bare2 (fun b z => absurd z (by simp)), rfl, q2⟩
    | next => exact False.elim hq'
    | brk => exact False.elim hq'
    | cont => exact False.elim hq'
theorem pe_fldE (he : PE X e te) (hb : attributeBase e f X.env (eval e X.env) = eval e X.env := by rfl) : PE X (.Attribute e f pos) (tFldE X.K f te) := by
  refine ⟨fun pins s σ H Q I h => attr_of hb (thn (he.run pins s σ H _ I h) fun u s1 hh => ?_)⟩
  obtain ⟨x, H1, I1, rx, a, C, dd, fs, v, ex, T, hno, ea, ed, l, q⟩ := hh
  subst ex
  cases rx
  obtain ⟨t1, ho⟩ := exo_at I1.hok ea
  obtain ⟨mA, hns, hr⟩ := exd_at I1.hok ed
  obtain ⟨od, hod, hl⟩ := lookIn_ns hns
  obtain ⟨u, hu, ru⟩ := RelO.some_of (v := v) (o := mA f) (by rw [← l]; exact hr f)
  have J : PySem.W.InstAt s1.heap a { cls := .ref C, dict := some dd, data := .fields #[.ref t1, .none, .none, .none, .bool false, .none] } C (some od) := ⟨ho, rfl, rfl, hod⟩
  exact HandSPX.exc_get I1.kIn J T.ga T.gg T.exC (PySem.W.findObj_own T.hdC hno rfl (by rw [hl, hu])) (handed_of ru) ⟨v, H1, I1.tok _, ru, q⟩
theorem call_isO : CallR X (.builtin "isinstance") (rIsO X.K) := by
  intro pins s σ H xs us Q I r h
  obtain ⟨a, D, dd, fs, c, cv, b, rfl, C, ea, ed, hcv, e, q⟩ := h
  cases r with
  | cons rx rr =>
    cases rr with
    | cons rt rr =>
      cases rr
      cases rx
      have ec := hcv _ rt
      subst ec
      obtain ⟨t1, ho⟩ := exo_at I.hok ea
      obtain ⟨mA, hns, hr⟩ := exd_at I.hok ed
      obtain ⟨od, hod, hl⟩ := lookIn_ns hns
      have J : PySem.W.InstAt s.heap a { cls := .ref D, dict := some dd, data := .fields #[.ref t1, .none, .none, .none, .bool false, .none] } D (some od) := ⟨ho, rfl, rfl, hod⟩
      have hcl : (PySem.W.clsIn X.K D).isSome = true := by
        obtain ⟨cd, hc, _⟩ := PySem.W.any_some C.hd
        rw [hc]
        rfl
      exact PySem.W.kia_one (PySem.W.kitx_exc hcl C.hg C.hk C.hs C.ha C.hn C.ht C.hm) I.kIn J e (fun z => nomatch z) fun tk => ⟨.bl b, H, I.kept (t' := tk) fun _ _ z => z, rfl, q⟩
end
theorem typ_ve : typeOf (.type "ValueError") = pure (.type "type") := by kernel_rfl
theorem typ_le : typeOf (.type "LookupError") = pure (.type "type") := by kernel_rfl
end EXV

-- CUT2
/-! ## What the text holds of its errors -/
structure Er where
  C : Addr
  f : Addr
  fd : FuncData
structure AdE where
  e_GrainError : Er
  e_MissingError : Er
  e_InvalidFraction : Er
  e_InvalidStatement : Er
  e_TooLarge : Er
  e_UnknownPlayer : Er
  e_DuplicatePiece : Er
  e_InvalidWeights : Er
  e_InvalidWorths : Er
  e_InvalidAnswer : Er
  e_BrokenRule : Er
  e_NothingExpected : Er
  e_NothingLeft : Er
  e_ParseError : Er
  e_InvalidName : Er
  e_InUse : Er
  e_Cycle : Er
  e_Unfit : Er
  e_InvalidCommand : Er
  e_InvalidDocument : Er
  e_UnknownPiece : Er
  e_UnknownName : Er
def AdE.all (B : AdE) : List Er := [B.e_InvalidFraction, B.e_InvalidStatement, B.e_TooLarge, B.e_UnknownPlayer, B.e_DuplicatePiece, B.e_InvalidWeights, B.e_InvalidWorths, B.e_InvalidAnswer, B.e_BrokenRule, B.e_NothingExpected, B.e_NothingLeft, B.e_ParseError, B.e_InvalidName, B.e_InUse, B.e_Cycle, B.e_Unfit, B.e_InvalidCommand, B.e_InvalidDocument, B.e_UnknownPiece, B.e_UnknownName]
structure ErT (K : PySem.W.Frag) (mg : Str → Option Value) (nw : String) (tl : List Value) (nm qn : Str) (st : Stmt) (ps : List Str) (R : Er) : Prop where
  g : mg nm = some (.ref R.C)
  T : EXV.OexG K nw tl R.C
  iC : PySem.W.findIn K (.ref R.C) "__init__" = some (some (.ref R.f))
  tC : PySem.W.typeIn K (.ref R.f) = some (.type "function")
  F : Fun K "__init__" qn st R.f R.fd
  b : Binds K R.fd ps []
  xf : XfC K R.C
  xc : ExcC K R.C
  nF : (("word" : Str) :: ps.tail).all (fun f => PySem.W.findIn K (.ref R.C) f == some none) = true
structure ExE (K : PySem.W.Frag) (mg : Str → Option Value) (B : AdE) : Prop where
  g_GrainError : mg "GrainError" = some (.ref B.e_GrainError.C)
  cr_GrainError : ClX.CRead K B.e_GrainError.C (.type "type")
  cv_GrainError : ClX.CVal K B.e_GrainError.C (.type "type") "__init__" (.ref B.e_GrainError.f) (.ref B.e_GrainError.f)
  F_GrainError : FunD K "__init__" "GrainError.__init__" (defArgs s_GrainError___init__) (defBody s_GrainError___init__) (defScope s_GrainError___init__) [.str "grainerror", .str "a value is wrong"] [] B.e_GrainError.f B.e_GrainError.fd
  b_GrainError : Binds K B.e_GrainError.fd ["self", "word", "message"] []
  g_MissingError : mg "MissingError" = some (.ref B.e_MissingError.C)
  cr_MissingError : ClX.CRead K B.e_MissingError.C (.type "type")
  cv_MissingError : ClX.CVal K B.e_MissingError.C (.type "type") "__init__" (.ref B.e_MissingError.f) (.ref B.e_MissingError.f)
  F_MissingError : FunD K "__init__" "MissingError.__init__" (defArgs s_MissingError___init__) (defBody s_MissingError___init__) (defScope s_MissingError___init__) [.str "missingerror", .str "a name is unknown"] [] B.e_MissingError.f B.e_MissingError.fd
  b_MissingError : Binds K B.e_MissingError.fd ["self", "word", "message"] []
  n_ValueError : mg "ValueError" = none
  i_ve : PySem.W.findCls K (.type "ValueError") (.type "type") "__init__" = some (.val (.builtin "ValueError.__init__"))
  n_LookupError : mg "LookupError" = none
  i_le : PySem.W.findCls K (.type "LookupError") (.type "type") "__init__" = some (.val (.builtin "LookupError.__init__"))
  d_InvalidFraction : ErT K mg "ValueError.__new__" PySem.HandSPX.veTail "InvalidFraction" "InvalidFraction.__init__" s_InvalidFraction___init__ ["self"] B.e_InvalidFraction
  d_InvalidStatement : ErT K mg "ValueError.__new__" PySem.HandSPX.veTail "InvalidStatement" "InvalidStatement.__init__" s_InvalidStatement___init__ ["self", "place"] B.e_InvalidStatement
  d_TooLarge : ErT K mg "ValueError.__new__" PySem.HandSPX.veTail "TooLarge" "TooLarge.__init__" s_TooLarge___init__ ["self", "limit"] B.e_TooLarge
  d_UnknownPlayer : ErT K mg "ValueError.__new__" PySem.HandSPX.veTail "UnknownPlayer" "UnknownPlayer.__init__" s_UnknownPlayer___init__ ["self", "player"] B.e_UnknownPlayer
  d_DuplicatePiece : ErT K mg "ValueError.__new__" PySem.HandSPX.veTail "DuplicatePiece" "DuplicatePiece.__init__" s_DuplicatePiece___init__ ["self", "name"] B.e_DuplicatePiece
  d_InvalidWeights : ErT K mg "ValueError.__new__" PySem.HandSPX.veTail "InvalidWeights" "InvalidWeights.__init__" s_InvalidWeights___init__ ["self"] B.e_InvalidWeights
  d_InvalidWorths : ErT K mg "ValueError.__new__" PySem.HandSPX.veTail "InvalidWorths" "InvalidWorths.__init__" s_InvalidWorths___init__ ["self"] B.e_InvalidWorths
  d_InvalidAnswer : ErT K mg "ValueError.__new__" PySem.HandSPX.veTail "InvalidAnswer" "InvalidAnswer.__init__" s_InvalidAnswer___init__ ["self"] B.e_InvalidAnswer
  d_BrokenRule : ErT K mg "ValueError.__new__" PySem.HandSPX.veTail "BrokenRule" "BrokenRule.__init__" s_BrokenRule___init__ ["self", "player"] B.e_BrokenRule
  d_NothingExpected : ErT K mg "ValueError.__new__" PySem.HandSPX.veTail "NothingExpected" "NothingExpected.__init__" s_NothingExpected___init__ ["self"] B.e_NothingExpected
  d_NothingLeft : ErT K mg "ValueError.__new__" PySem.HandSPX.veTail "NothingLeft" "NothingLeft.__init__" s_NothingLeft___init__ ["self"] B.e_NothingLeft
  d_ParseError : ErT K mg "ValueError.__new__" PySem.HandSPX.veTail "ParseError" "ParseError.__init__" s_ParseError___init__ ["self", "place"] B.e_ParseError
  d_InvalidName : ErT K mg "ValueError.__new__" PySem.HandSPX.veTail "InvalidName" "InvalidName.__init__" s_InvalidName___init__ ["self", "name"] B.e_InvalidName
  d_InUse : ErT K mg "ValueError.__new__" PySem.HandSPX.veTail "InUse" "InUse.__init__" s_InUse___init__ ["self", "name"] B.e_InUse
  d_Cycle : ErT K mg "ValueError.__new__" PySem.HandSPX.veTail "Cycle" "Cycle.__init__" s_Cycle___init__ ["self", "name"] B.e_Cycle
  d_Unfit : ErT K mg "ValueError.__new__" PySem.HandSPX.veTail "Unfit" "Unfit.__init__" s_Unfit___init__ ["self", "name"] B.e_Unfit
  d_InvalidCommand : ErT K mg "ValueError.__new__" PySem.HandSPX.veTail "InvalidCommand" "InvalidCommand.__init__" s_InvalidCommand___init__ ["self", "index"] B.e_InvalidCommand
  d_InvalidDocument : ErT K mg "ValueError.__new__" PySem.HandSPX.veTail "InvalidDocument" "InvalidDocument.__init__" s_InvalidDocument___init__ ["self", "row"] B.e_InvalidDocument
  d_UnknownPiece : ErT K mg "LookupError.__new__" EXV.leTail "UnknownPiece" "UnknownPiece.__init__" s_UnknownPiece___init__ ["self", "name"] B.e_UnknownPiece
  d_UnknownName : ErT K mg "LookupError.__new__" EXV.leTail "UnknownName" "UnknownName.__init__" s_UnknownName___init__ ["self", "name"] B.e_UnknownName
  kinds : ∀ (i j : Nat) (a b : Addr), (B.all.map (·.C))[i]? = some a → (B.all.map (·.C))[j]? = some b → PySem.W.kitOne K (.ref a) (.ref b) = some (decide (j = i))
  kG : ∀ (i : Nat) (a : Addr), (B.all.map (·.C))[i]? = some a → PySem.W.kitOne K (.ref a) (.ref B.e_GrainError.C) = some (decide (i < 18))
  kV : ∀ (i : Nat) (a : Addr), (B.all.map (·.C))[i]? = some a → PySem.W.kitOne K (.ref a) (.type "ValueError") = some (decide (i < 18))
  kM : ∀ (i : Nat) (a : Addr), (B.all.map (·.C))[i]? = some a → PySem.W.kitOne K (.ref a) (.ref B.e_MissingError.C) = some (!decide (i < 18))
  kL : ∀ (i : Nat) (a : Addr), (B.all.map (·.C))[i]? = some a → PySem.W.kitOne K (.ref a) (.type "LookupError") = some (!decide (i < 18))
theorem ap_len (x y : Str) : (x ++ y).length = x.length + y.length := Array.size_append ..
theorem app1 {c : Str} (hc : c.length ≤ 100) : (Str.empty ++ c).length ≤ sizeLine := by
  rw [Str.empty_append]
  exact sl_small (by omega)
theorem app2 {c t : Str} (hc : c.length ≤ 100) (ht : t.length ≤ 1921) : (Str.empty ++ c ++ t).length ≤ sizeLine := by
  rw [Str.empty_append, ap_len]
  exact sl_small (by omega)
theorem app3 {c t u : Str} (hc : c.length ≤ 100) (ht : t.length ≤ 1921) (hu : u.length ≤ 100) : (Str.empty ++ c ++ t ++ u).length ≤ sizeLine := by
  rw [Str.empty_append, ap_len, ap_len]
  exact sl_small (by omega)
theorem log_lt {k : Int} (h : k.natAbs < 2 ^ 60) : k.natAbs.log2 < 1920 := by
  by_cases z : k.natAbs = 0
  · rw [z]
    decide
  · exact Nat.lt_trans ((Nat.log2_lt z).mpr h) (by decide)
theorem int_txt {k : Int} (h : k.natAbs < 2 ^ 60) : (Str.ofString (toString k)).length ≤ 1921 := PyProof.Rows.int_text_len_1921 (log_lt h)
theorem nf_at {K : PySem.W.Frag} {C : Addr} {fs : List Str} {f : Str} (h : fs.all (fun f => PySem.W.findIn K (.ref C) f == some none) = true) (hf : f ∈ fs) : PySem.W.findIn K (.ref C) f = some none := beq_iff_eq.mp (List.all_eq_true.mp h f hf)
/-- the classes' bases: self is given its word -/
def spBase (K : PySem.W.Frag) (nw : String) (tl : List Value) : Sp := fun vs H Q _ => ∃ (a C : Addr) (wd msg : Str), vs = [.ref a, .str wd, .str msg] ∧ EXV.OexG K nw tl C ∧ PySem.W.findIn K (.ref C) "word" = some none ∧ H a = some (exo a C none) ∧
  ∀ d, H d = none → d ≠ a → Q .non (upd (upd H d (exd d [("word", .str wd)])) a (exo a C (some d)))
/-- an object of an error -/
def Made (H : Hp) (a C : Addr) (fs : List (Str × V)) : Prop := ∃ d, H a = some (exo a C (some d)) ∧ H d = some (exd d fs)
theorem Made.mono {H H' : Hp} {a C : Addr} {fs : List (Str × V)} (h : Made H a C fs) (e : Same H H') : Made H' a C fs := by
  obtain ⟨d, h1, h2⟩ := h
  exact ⟨d, e _ _ h1, e _ _ h2⟩
theorem made2 {H : Hp} {a d C : Addr} {f wd : Str} {x : V} (h2 : d ≠ a) : Made (upd (upd (upd H d (exd d [("word", .str wd)])) a (exo a C (some d))) d (exd d [(f, x), ("word", .str wd)])) a C [(f, x), ("word", .str wd)] :=
  ⟨d, by rw [upd_ne h2.symm, upd_same], upd_same⟩
theorem kept2 {H : Hp} {a d : Addr} {o1 o2 o3 : HO} (h1 : H d = none) : ∀ b o, b ≠ a → H b = some o → upd (upd (upd H d o1) a o2) d o3 b = some o := fun b o hb ho => by
  rw [upd_ne (ne_of_none ho h1), upd_ne hb, upd_ne (ne_of_none ho h1)]
  exact ho
def spE0 (C : Addr) (wd : Str) : Sp := fun vs H Q _ => ∃ a, vs = [.ref a] ∧ H a = some (exo a C none) ∧ ∀ H', Made H' a C [("word", .str wd)] → (∀ b o, b ≠ a → H b = some o → H' b = some o) → Q .non H'
def spEI (C : Addr) (wd f : Str) : Sp := fun vs H Q _ => ∃ (a : Addr) (k : Int), vs = [.ref a, .int k] ∧ k.natAbs < 2 ^ 60 ∧ H a = some (exo a C none) ∧ ∀ H', Made H' a C [(f, .int k), ("word", .str wd)] → (∀ b o, b ≠ a → H b = some o → H' b = some o) → Q .non H'
def spES (C : Addr) (wd f : Str) : Sp := fun vs H Q _ => ∃ (a : Addr) (t : Str), vs = [.ref a, .str t] ∧ t.length ≤ 100 ∧ H a = some (exo a C none) ∧ ∀ H', Made H' a C [(f, .str t), ("word", .str wd)] → (∀ b o, b ≠ a → H b = some o → H' b = some o) → Q .non H'
section
variable {P : Program} {w : World} {K : PySem.W.Frag} {mg : Str → Option Value} {base : Heap} {B : AdE}
theorem ok_init_GrainError (ET : ExE K mg B) : FnOk P w K mg base CX0 1 B.e_GrainError.f B.e_GrainError.fd ["self", "word", "message"] (spBase K "ValueError.__new__" PySem.HandSPX.veTail) := by
  refine ET.F_GrainError.ok sc_GrainError___init__ (fun vs H Q E h => ?_) (fun cdv ar outer s H vs Q E hr h => ?_)
  · obtain ⟨a, C, wd, msg, rfl, _⟩ := h
    rfl
  obtain ⟨a, C, wd, msg, rfl, T, hno, ha, q⟩ := h
  refine ⟨_, (pss_cons (ps_expr (EXV.pe_binit EXV.base_ve (by decide +kernel) (by decide +kernel) (by decide +kernel) EXV.typ_ve (by rfl) ET.n_ValueError ET.i_ve (pa_cons (pv 0) (pa_cons (pv 2) pa_nil)) (by decide) (by decide)))
    (pss_one (EXV.ps_ostG EXV.base_ve (pv 0) (pv 1)))), ?_⟩
  exact ⟨_, rfl, _, rfl, a, C, _, rfl, by show 1 ≤ 1000; decide, T, ha, _, rfl, _, rfl, a, C, rfl, T, hno, .inl ⟨ha, fun d h1 h2 => q d h1 h2⟩⟩
theorem ok_init_MissingError (ET : ExE K mg B) : FnOk P w K mg base CX0 1 B.e_MissingError.f B.e_MissingError.fd ["self", "word", "message"] (spBase K "LookupError.__new__" EXV.leTail) := by
  refine ET.F_MissingError.ok sc_MissingError___init__ (fun vs H Q E h => ?_) (fun cdv ar outer s H vs Q E hr h => ?_)
  · obtain ⟨a, C, wd, msg, rfl, _⟩ := h
    rfl
  obtain ⟨a, C, wd, msg, rfl, T, hno, ha, q⟩ := h
  refine ⟨_, (pss_cons (ps_expr (EXV.pe_binit EXV.base_le (by decide +kernel) (by decide +kernel) (by decide +kernel) EXV.typ_le (by rfl) ET.n_LookupError ET.i_le (pa_cons (pv 0) (pa_cons (pv 2) pa_nil)) (by decide) (by decide)))
    (pss_one (EXV.ps_ostG EXV.base_le (pv 0) (pv 1)))), ?_⟩
  exact ⟨_, rfl, _, rfl, a, C, _, rfl, by show 1 ≤ 1000; decide, T, ha, _, rfl, _, rfl, a, C, rfl, T, hno, .inl ⟨ha, fun d h1 h2 => q d h1 h2⟩⟩
theorem ok_init_InvalidFraction (ET : ExE K mg B) : FnOk P w K mg base CX0 2 B.e_InvalidFraction.f B.e_InvalidFraction.fd ["self"] (spE0 B.e_InvalidFraction.C "invalidfraction") := by
  refine ET.d_InvalidFraction.F.ok sc_InvalidFraction___init__ (fun vs H Q E h => ?_) (fun cdv ar outer s H vs Q E hr h => ?_)
  · obtain ⟨a, rfl, _⟩ := h
    rfl
  obtain ⟨a, rfl, ha, q⟩ := h
  refine ⟨_, (pss_one (ps_expr (EX.pe_indef ET.cr_GrainError ET.cv_GrainError ET.F_GrainError.kp (ok_init_GrainError ET) (hr.mono (by decide)) ET.b_GrainError .nil pass0 (by rfl) ET.g_GrainError (pa_cons (pv 0) (pa_cons pe_str (pa_cons pe_str pa_nil)))))), ?_⟩
  exact ⟨_, rfl, a, _, _, _, rfl, ET.d_InvalidFraction.T, nf_at (f := "word") (fs := ["word"]) ET.d_InvalidFraction.nF (by decide), ha, fun d h1 h2 => q _ ⟨d, upd_same, by rw [upd_ne h2, upd_same]⟩ fun b o hb ho => by rw [upd_ne hb, upd_ne (ne_of_none ho h1)]; exact ho⟩
theorem ok_init_InvalidStatement (ET : ExE K mg B) : FnOk P w K mg base CX0 2 B.e_InvalidStatement.f B.e_InvalidStatement.fd ["self", "place"] (spEI B.e_InvalidStatement.C "invalidstatement" "place") := by
  refine ET.d_InvalidStatement.F.ok sc_InvalidStatement___init__ (fun vs H Q E h => ?_) (fun cdv ar outer s H vs Q E hr h => ?_)
  · obtain ⟨a, k, rfl, _⟩ := h
    rfl
  obtain ⟨a, k, rfl, hk, ha, q⟩ := h
  refine ⟨_, (pss_cons (ps_expr (EX.pe_indef ET.cr_GrainError ET.cv_GrainError ET.F_GrainError.kp (ok_init_GrainError ET) (hr.mono (by decide)) ET.b_GrainError .nil pass0 (by rfl) ET.g_GrainError (pa_cons (pv 0) (pa_cons pe_str (pa_cons (pe_joined (.cons pe_str (.cons (pe_fmt (pv 1)) (.cons pe_str .nil)))) pa_nil)))))
    (pss_one (EXV.ps_ostG EXV.base_ve (pv 0) (pv 1)))), ?_⟩
  refine ⟨_, rfl, _, rfl, app1 (by decide), _, rfl, .inr ⟨k, rfl, log_lt hk, _, rfl, app2 (by decide) (int_txt hk), _, rfl, app3 (by decide) (int_txt hk) (by decide), a, _, _, _, rfl, ET.d_InvalidStatement.T, nf_at (f := "word") (fs := ["word", "place"]) ET.d_InvalidStatement.nF (by decide), ha, fun d h1 h2 => ?_⟩⟩
  exact ⟨_, rfl, _, rfl, a, _, rfl, ET.d_InvalidStatement.T, nf_at (f := "place") (fs := ["word", "place"]) ET.d_InvalidStatement.nF (by decide), .inr ⟨d, _, upd_same, by rw [upd_ne h2, upd_same], by show 1 ≤ 900; decide, q _ (made2 h2) (kept2 h1)⟩⟩
theorem ok_init_TooLarge (ET : ExE K mg B) : FnOk P w K mg base CX0 2 B.e_TooLarge.f B.e_TooLarge.fd ["self", "limit"] (spEI B.e_TooLarge.C "toolarge" "limit") := by
  refine ET.d_TooLarge.F.ok sc_TooLarge___init__ (fun vs H Q E h => ?_) (fun cdv ar outer s H vs Q E hr h => ?_)
  · obtain ⟨a, k, rfl, _⟩ := h
    rfl
  obtain ⟨a, k, rfl, hk, ha, q⟩ := h
  refine ⟨_, (pss_cons (ps_expr (EX.pe_indef ET.cr_GrainError ET.cv_GrainError ET.F_GrainError.kp (ok_init_GrainError ET) (hr.mono (by decide)) ET.b_GrainError .nil pass0 (by rfl) ET.g_GrainError (pa_cons (pv 0) (pa_cons pe_str (pa_cons (pe_joined (.cons pe_str (.cons (pe_fmt (pv 1)) .nil))) pa_nil)))))
    (pss_one (EXV.ps_ostG EXV.base_ve (pv 0) (pv 1)))), ?_⟩
  refine ⟨_, rfl, _, rfl, app1 (by decide), _, rfl, .inr ⟨k, rfl, log_lt hk, _, rfl, app2 (by decide) (int_txt hk), a, _, _, _, rfl, ET.d_TooLarge.T, nf_at (f := "word") (fs := ["word", "limit"]) ET.d_TooLarge.nF (by decide), ha, fun d h1 h2 => ?_⟩⟩
  exact ⟨_, rfl, _, rfl, a, _, rfl, ET.d_TooLarge.T, nf_at (f := "limit") (fs := ["word", "limit"]) ET.d_TooLarge.nF (by decide), .inr ⟨d, _, upd_same, by rw [upd_ne h2, upd_same], by show 1 ≤ 900; decide, q _ (made2 h2) (kept2 h1)⟩⟩
theorem ok_init_UnknownPlayer (ET : ExE K mg B) : FnOk P w K mg base CX0 2 B.e_UnknownPlayer.f B.e_UnknownPlayer.fd ["self", "player"] (spEI B.e_UnknownPlayer.C "unknownplayer" "player") := by
  refine ET.d_UnknownPlayer.F.ok sc_UnknownPlayer___init__ (fun vs H Q E h => ?_) (fun cdv ar outer s H vs Q E hr h => ?_)
  · obtain ⟨a, k, rfl, _⟩ := h
    rfl
  obtain ⟨a, k, rfl, hk, ha, q⟩ := h
  refine ⟨_, (pss_cons (ps_expr (EX.pe_indef ET.cr_GrainError ET.cv_GrainError ET.F_GrainError.kp (ok_init_GrainError ET) (hr.mono (by decide)) ET.b_GrainError .nil pass0 (by rfl) ET.g_GrainError (pa_cons (pv 0) (pa_cons pe_str (pa_cons (pe_joined (.cons pe_str (.cons (pe_fmt (pv 1)) .nil))) pa_nil)))))
    (pss_one (EXV.ps_ostG EXV.base_ve (pv 0) (pv 1)))), ?_⟩
  refine ⟨_, rfl, _, rfl, app1 (by decide), _, rfl, .inr ⟨k, rfl, log_lt hk, _, rfl, app2 (by decide) (int_txt hk), a, _, _, _, rfl, ET.d_UnknownPlayer.T, nf_at (f := "word") (fs := ["word", "player"]) ET.d_UnknownPlayer.nF (by decide), ha, fun d h1 h2 => ?_⟩⟩
  exact ⟨_, rfl, _, rfl, a, _, rfl, ET.d_UnknownPlayer.T, nf_at (f := "player") (fs := ["word", "player"]) ET.d_UnknownPlayer.nF (by decide), .inr ⟨d, _, upd_same, by rw [upd_ne h2, upd_same], by show 1 ≤ 900; decide, q _ (made2 h2) (kept2 h1)⟩⟩
theorem ok_init_DuplicatePiece (ET : ExE K mg B) : FnOk P w K mg base CX0 2 B.e_DuplicatePiece.f B.e_DuplicatePiece.fd ["self", "name"] (spES B.e_DuplicatePiece.C "duplicatepiece" "name") := by
  refine ET.d_DuplicatePiece.F.ok sc_DuplicatePiece___init__ (fun vs H Q E h => ?_) (fun cdv ar outer s H vs Q E hr h => ?_)
  · obtain ⟨a, k, rfl, _⟩ := h
    rfl
  obtain ⟨a, k, rfl, hk, ha, q⟩ := h
  refine ⟨_, (pss_cons (ps_expr (EX.pe_indef ET.cr_GrainError ET.cv_GrainError ET.F_GrainError.kp (ok_init_GrainError ET) (hr.mono (by decide)) ET.b_GrainError .nil pass0 (by rfl) ET.g_GrainError (pa_cons (pv 0) (pa_cons pe_str (pa_cons (pe_joined (.cons pe_str (.cons (pe_fmt (pv 1)) (.cons pe_str .nil)))) pa_nil)))))
    (pss_one (EXV.ps_ostG EXV.base_ve (pv 0) (pv 1)))), ?_⟩
  refine ⟨_, rfl, _, rfl, app1 (by decide), _, rfl, .inl ⟨k, rfl, sl_small (by omega), _, rfl, app2 (by decide) (by omega), _, rfl, app3 (by decide) (by omega) (by decide), a, _, _, _, rfl, ET.d_DuplicatePiece.T, nf_at (f := "word") (fs := ["word", "name"]) ET.d_DuplicatePiece.nF (by decide), ha, fun d h1 h2 => ?_⟩⟩
  exact ⟨_, rfl, _, rfl, a, _, rfl, ET.d_DuplicatePiece.T, nf_at (f := "name") (fs := ["word", "name"]) ET.d_DuplicatePiece.nF (by decide), .inr ⟨d, _, upd_same, by rw [upd_ne h2, upd_same], by show 1 ≤ 900; decide, q _ (made2 h2) (kept2 h1)⟩⟩
theorem ok_init_InvalidWeights (ET : ExE K mg B) : FnOk P w K mg base CX0 2 B.e_InvalidWeights.f B.e_InvalidWeights.fd ["self"] (spE0 B.e_InvalidWeights.C "invalidweights") := by
  refine ET.d_InvalidWeights.F.ok sc_InvalidWeights___init__ (fun vs H Q E h => ?_) (fun cdv ar outer s H vs Q E hr h => ?_)
  · obtain ⟨a, rfl, _⟩ := h
    rfl
  obtain ⟨a, rfl, ha, q⟩ := h
  refine ⟨_, (pss_one (ps_expr (EX.pe_indef ET.cr_GrainError ET.cv_GrainError ET.F_GrainError.kp (ok_init_GrainError ET) (hr.mono (by decide)) ET.b_GrainError .nil pass0 (by rfl) ET.g_GrainError (pa_cons (pv 0) (pa_cons pe_str (pa_cons pe_str pa_nil)))))), ?_⟩
  exact ⟨_, rfl, a, _, _, _, rfl, ET.d_InvalidWeights.T, nf_at (f := "word") (fs := ["word"]) ET.d_InvalidWeights.nF (by decide), ha, fun d h1 h2 => q _ ⟨d, upd_same, by rw [upd_ne h2, upd_same]⟩ fun b o hb ho => by rw [upd_ne hb, upd_ne (ne_of_none ho h1)]; exact ho⟩
theorem ok_init_InvalidWorths (ET : ExE K mg B) : FnOk P w K mg base CX0 2 B.e_InvalidWorths.f B.e_InvalidWorths.fd ["self"] (spE0 B.e_InvalidWorths.C "invalidworths") := by
  refine ET.d_InvalidWorths.F.ok sc_InvalidWorths___init__ (fun vs H Q E h => ?_) (fun cdv ar outer s H vs Q E hr h => ?_)
  · obtain ⟨a, rfl, _⟩ := h
    rfl
  obtain ⟨a, rfl, ha, q⟩ := h
  refine ⟨_, (pss_one (ps_expr (EX.pe_indef ET.cr_GrainError ET.cv_GrainError ET.F_GrainError.kp (ok_init_GrainError ET) (hr.mono (by decide)) ET.b_GrainError .nil pass0 (by rfl) ET.g_GrainError (pa_cons (pv 0) (pa_cons pe_str (pa_cons pe_str pa_nil)))))), ?_⟩
  exact ⟨_, rfl, a, _, _, _, rfl, ET.d_InvalidWorths.T, nf_at (f := "word") (fs := ["word"]) ET.d_InvalidWorths.nF (by decide), ha, fun d h1 h2 => q _ ⟨d, upd_same, by rw [upd_ne h2, upd_same]⟩ fun b o hb ho => by rw [upd_ne hb, upd_ne (ne_of_none ho h1)]; exact ho⟩
theorem ok_init_InvalidAnswer (ET : ExE K mg B) : FnOk P w K mg base CX0 2 B.e_InvalidAnswer.f B.e_InvalidAnswer.fd ["self"] (spE0 B.e_InvalidAnswer.C "invalidanswer") := by
  refine ET.d_InvalidAnswer.F.ok sc_InvalidAnswer___init__ (fun vs H Q E h => ?_) (fun cdv ar outer s H vs Q E hr h => ?_)
  · obtain ⟨a, rfl, _⟩ := h
    rfl
  obtain ⟨a, rfl, ha, q⟩ := h
  refine ⟨_, (pss_one (ps_expr (EX.pe_indef ET.cr_GrainError ET.cv_GrainError ET.F_GrainError.kp (ok_init_GrainError ET) (hr.mono (by decide)) ET.b_GrainError .nil pass0 (by rfl) ET.g_GrainError (pa_cons (pv 0) (pa_cons pe_str (pa_cons pe_str pa_nil)))))), ?_⟩
  exact ⟨_, rfl, a, _, _, _, rfl, ET.d_InvalidAnswer.T, nf_at (f := "word") (fs := ["word"]) ET.d_InvalidAnswer.nF (by decide), ha, fun d h1 h2 => q _ ⟨d, upd_same, by rw [upd_ne h2, upd_same]⟩ fun b o hb ho => by rw [upd_ne hb, upd_ne (ne_of_none ho h1)]; exact ho⟩
theorem ok_init_BrokenRule (ET : ExE K mg B) : FnOk P w K mg base CX0 2 B.e_BrokenRule.f B.e_BrokenRule.fd ["self", "player"] (spEI B.e_BrokenRule.C "brokenrule" "player") := by
  refine ET.d_BrokenRule.F.ok sc_BrokenRule___init__ (fun vs H Q E h => ?_) (fun cdv ar outer s H vs Q E hr h => ?_)
  · obtain ⟨a, k, rfl, _⟩ := h
    rfl
  obtain ⟨a, k, rfl, hk, ha, q⟩ := h
  refine ⟨_, (pss_cons (ps_expr (EX.pe_indef ET.cr_GrainError ET.cv_GrainError ET.F_GrainError.kp (ok_init_GrainError ET) (hr.mono (by decide)) ET.b_GrainError .nil pass0 (by rfl) ET.g_GrainError (pa_cons (pv 0) (pa_cons pe_str (pa_cons (pe_joined (.cons pe_str (.cons (pe_fmt (pv 1)) (.cons pe_str .nil)))) pa_nil)))))
    (pss_one (EXV.ps_ostG EXV.base_ve (pv 0) (pv 1)))), ?_⟩
  refine ⟨_, rfl, _, rfl, app1 (by decide), _, rfl, .inr ⟨k, rfl, log_lt hk, _, rfl, app2 (by decide) (int_txt hk), _, rfl, app3 (by decide) (int_txt hk) (by decide), a, _, _, _, rfl, ET.d_BrokenRule.T, nf_at (f := "word") (fs := ["word", "player"]) ET.d_BrokenRule.nF (by decide), ha, fun d h1 h2 => ?_⟩⟩
  exact ⟨_, rfl, _, rfl, a, _, rfl, ET.d_BrokenRule.T, nf_at (f := "player") (fs := ["word", "player"]) ET.d_BrokenRule.nF (by decide), .inr ⟨d, _, upd_same, by rw [upd_ne h2, upd_same], by show 1 ≤ 900; decide, q _ (made2 h2) (kept2 h1)⟩⟩
theorem ok_init_NothingExpected (ET : ExE K mg B) : FnOk P w K mg base CX0 2 B.e_NothingExpected.f B.e_NothingExpected.fd ["self"] (spE0 B.e_NothingExpected.C "nothingexpected") := by
  refine ET.d_NothingExpected.F.ok sc_NothingExpected___init__ (fun vs H Q E h => ?_) (fun cdv ar outer s H vs Q E hr h => ?_)
  · obtain ⟨a, rfl, _⟩ := h
    rfl
  obtain ⟨a, rfl, ha, q⟩ := h
  refine ⟨_, (pss_one (ps_expr (EX.pe_indef ET.cr_GrainError ET.cv_GrainError ET.F_GrainError.kp (ok_init_GrainError ET) (hr.mono (by decide)) ET.b_GrainError .nil pass0 (by rfl) ET.g_GrainError (pa_cons (pv 0) (pa_cons pe_str (pa_cons pe_str pa_nil)))))), ?_⟩
  exact ⟨_, rfl, a, _, _, _, rfl, ET.d_NothingExpected.T, nf_at (f := "word") (fs := ["word"]) ET.d_NothingExpected.nF (by decide), ha, fun d h1 h2 => q _ ⟨d, upd_same, by rw [upd_ne h2, upd_same]⟩ fun b o hb ho => by rw [upd_ne hb, upd_ne (ne_of_none ho h1)]; exact ho⟩
theorem ok_init_NothingLeft (ET : ExE K mg B) : FnOk P w K mg base CX0 2 B.e_NothingLeft.f B.e_NothingLeft.fd ["self"] (spE0 B.e_NothingLeft.C "nothingleft") := by
  refine ET.d_NothingLeft.F.ok sc_NothingLeft___init__ (fun vs H Q E h => ?_) (fun cdv ar outer s H vs Q E hr h => ?_)
  · obtain ⟨a, rfl, _⟩ := h
    rfl
  obtain ⟨a, rfl, ha, q⟩ := h
  refine ⟨_, (pss_one (ps_expr (EX.pe_indef ET.cr_GrainError ET.cv_GrainError ET.F_GrainError.kp (ok_init_GrainError ET) (hr.mono (by decide)) ET.b_GrainError .nil pass0 (by rfl) ET.g_GrainError (pa_cons (pv 0) (pa_cons pe_str (pa_cons pe_str pa_nil)))))), ?_⟩
  exact ⟨_, rfl, a, _, _, _, rfl, ET.d_NothingLeft.T, nf_at (f := "word") (fs := ["word"]) ET.d_NothingLeft.nF (by decide), ha, fun d h1 h2 => q _ ⟨d, upd_same, by rw [upd_ne h2, upd_same]⟩ fun b o hb ho => by rw [upd_ne hb, upd_ne (ne_of_none ho h1)]; exact ho⟩
theorem ok_init_ParseError (ET : ExE K mg B) : FnOk P w K mg base CX0 2 B.e_ParseError.f B.e_ParseError.fd ["self", "place"] (spEI B.e_ParseError.C "parseerror" "place") := by
  refine ET.d_ParseError.F.ok sc_ParseError___init__ (fun vs H Q E h => ?_) (fun cdv ar outer s H vs Q E hr h => ?_)
  · obtain ⟨a, k, rfl, _⟩ := h
    rfl
  obtain ⟨a, k, rfl, hk, ha, q⟩ := h
  refine ⟨_, (pss_cons (ps_expr (EX.pe_indef ET.cr_GrainError ET.cv_GrainError ET.F_GrainError.kp (ok_init_GrainError ET) (hr.mono (by decide)) ET.b_GrainError .nil pass0 (by rfl) ET.g_GrainError (pa_cons (pv 0) (pa_cons pe_str (pa_cons (pe_joined (.cons pe_str (.cons (pe_fmt (pv 1)) (.cons pe_str .nil)))) pa_nil)))))
    (pss_one (EXV.ps_ostG EXV.base_ve (pv 0) (pv 1)))), ?_⟩
  refine ⟨_, rfl, _, rfl, app1 (by decide), _, rfl, .inr ⟨k, rfl, log_lt hk, _, rfl, app2 (by decide) (int_txt hk), _, rfl, app3 (by decide) (int_txt hk) (by decide), a, _, _, _, rfl, ET.d_ParseError.T, nf_at (f := "word") (fs := ["word", "place"]) ET.d_ParseError.nF (by decide), ha, fun d h1 h2 => ?_⟩⟩
  exact ⟨_, rfl, _, rfl, a, _, rfl, ET.d_ParseError.T, nf_at (f := "place") (fs := ["word", "place"]) ET.d_ParseError.nF (by decide), .inr ⟨d, _, upd_same, by rw [upd_ne h2, upd_same], by show 1 ≤ 900; decide, q _ (made2 h2) (kept2 h1)⟩⟩
theorem ok_init_InvalidName (ET : ExE K mg B) : FnOk P w K mg base CX0 2 B.e_InvalidName.f B.e_InvalidName.fd ["self", "name"] (spES B.e_InvalidName.C "invalidname" "name") := by
  refine ET.d_InvalidName.F.ok sc_InvalidName___init__ (fun vs H Q E h => ?_) (fun cdv ar outer s H vs Q E hr h => ?_)
  · obtain ⟨a, k, rfl, _⟩ := h
    rfl
  obtain ⟨a, k, rfl, hk, ha, q⟩ := h
  refine ⟨_, (pss_cons (ps_expr (EX.pe_indef ET.cr_GrainError ET.cv_GrainError ET.F_GrainError.kp (ok_init_GrainError ET) (hr.mono (by decide)) ET.b_GrainError .nil pass0 (by rfl) ET.g_GrainError (pa_cons (pv 0) (pa_cons pe_str (pa_cons (pe_joined (.cons pe_str (.cons (pe_fmt (pv 1)) .nil))) pa_nil)))))
    (pss_one (EXV.ps_ostG EXV.base_ve (pv 0) (pv 1)))), ?_⟩
  refine ⟨_, rfl, _, rfl, app1 (by decide), _, rfl, .inl ⟨k, rfl, sl_small (by omega), _, rfl, app2 (by decide) (by omega), a, _, _, _, rfl, ET.d_InvalidName.T, nf_at (f := "word") (fs := ["word", "name"]) ET.d_InvalidName.nF (by decide), ha, fun d h1 h2 => ?_⟩⟩
  exact ⟨_, rfl, _, rfl, a, _, rfl, ET.d_InvalidName.T, nf_at (f := "name") (fs := ["word", "name"]) ET.d_InvalidName.nF (by decide), .inr ⟨d, _, upd_same, by rw [upd_ne h2, upd_same], by show 1 ≤ 900; decide, q _ (made2 h2) (kept2 h1)⟩⟩
theorem ok_init_InUse (ET : ExE K mg B) : FnOk P w K mg base CX0 2 B.e_InUse.f B.e_InUse.fd ["self", "name"] (spES B.e_InUse.C "inuse" "name") := by
  refine ET.d_InUse.F.ok sc_InUse___init__ (fun vs H Q E h => ?_) (fun cdv ar outer s H vs Q E hr h => ?_)
  · obtain ⟨a, k, rfl, _⟩ := h
    rfl
  obtain ⟨a, k, rfl, hk, ha, q⟩ := h
  refine ⟨_, (pss_cons (ps_expr (EX.pe_indef ET.cr_GrainError ET.cv_GrainError ET.F_GrainError.kp (ok_init_GrainError ET) (hr.mono (by decide)) ET.b_GrainError .nil pass0 (by rfl) ET.g_GrainError (pa_cons (pv 0) (pa_cons pe_str (pa_cons (pe_joined (.cons pe_str (.cons (pe_fmt (pv 1)) (.cons pe_str .nil)))) pa_nil)))))
    (pss_one (EXV.ps_ostG EXV.base_ve (pv 0) (pv 1)))), ?_⟩
  refine ⟨_, rfl, _, rfl, app1 (by decide), _, rfl, .inl ⟨k, rfl, sl_small (by omega), _, rfl, app2 (by decide) (by omega), _, rfl, app3 (by decide) (by omega) (by decide), a, _, _, _, rfl, ET.d_InUse.T, nf_at (f := "word") (fs := ["word", "name"]) ET.d_InUse.nF (by decide), ha, fun d h1 h2 => ?_⟩⟩
  exact ⟨_, rfl, _, rfl, a, _, rfl, ET.d_InUse.T, nf_at (f := "name") (fs := ["word", "name"]) ET.d_InUse.nF (by decide), .inr ⟨d, _, upd_same, by rw [upd_ne h2, upd_same], by show 1 ≤ 900; decide, q _ (made2 h2) (kept2 h1)⟩⟩
theorem ok_init_Cycle (ET : ExE K mg B) : FnOk P w K mg base CX0 2 B.e_Cycle.f B.e_Cycle.fd ["self", "name"] (spES B.e_Cycle.C "cycle" "name") := by
  refine ET.d_Cycle.F.ok sc_Cycle___init__ (fun vs H Q E h => ?_) (fun cdv ar outer s H vs Q E hr h => ?_)
  · obtain ⟨a, k, rfl, _⟩ := h
    rfl
  obtain ⟨a, k, rfl, hk, ha, q⟩ := h
  refine ⟨_, (pss_cons (ps_expr (EX.pe_indef ET.cr_GrainError ET.cv_GrainError ET.F_GrainError.kp (ok_init_GrainError ET) (hr.mono (by decide)) ET.b_GrainError .nil pass0 (by rfl) ET.g_GrainError (pa_cons (pv 0) (pa_cons pe_str (pa_cons (pe_joined (.cons pe_str (.cons (pe_fmt (pv 1)) (.cons pe_str .nil)))) pa_nil)))))
    (pss_one (EXV.ps_ostG EXV.base_ve (pv 0) (pv 1)))), ?_⟩
  refine ⟨_, rfl, _, rfl, app1 (by decide), _, rfl, .inl ⟨k, rfl, sl_small (by omega), _, rfl, app2 (by decide) (by omega), _, rfl, app3 (by decide) (by omega) (by decide), a, _, _, _, rfl, ET.d_Cycle.T, nf_at (f := "word") (fs := ["word", "name"]) ET.d_Cycle.nF (by decide), ha, fun d h1 h2 => ?_⟩⟩
  exact ⟨_, rfl, _, rfl, a, _, rfl, ET.d_Cycle.T, nf_at (f := "name") (fs := ["word", "name"]) ET.d_Cycle.nF (by decide), .inr ⟨d, _, upd_same, by rw [upd_ne h2, upd_same], by show 1 ≤ 900; decide, q _ (made2 h2) (kept2 h1)⟩⟩
theorem ok_init_Unfit (ET : ExE K mg B) : FnOk P w K mg base CX0 2 B.e_Unfit.f B.e_Unfit.fd ["self", "name"] (spES B.e_Unfit.C "unfit" "name") := by
  refine ET.d_Unfit.F.ok sc_Unfit___init__ (fun vs H Q E h => ?_) (fun cdv ar outer s H vs Q E hr h => ?_)
  · obtain ⟨a, k, rfl, _⟩ := h
    rfl
  obtain ⟨a, k, rfl, hk, ha, q⟩ := h
  refine ⟨_, (pss_cons (ps_expr (EX.pe_indef ET.cr_GrainError ET.cv_GrainError ET.F_GrainError.kp (ok_init_GrainError ET) (hr.mono (by decide)) ET.b_GrainError .nil pass0 (by rfl) ET.g_GrainError (pa_cons (pv 0) (pa_cons pe_str (pa_cons (pe_joined (.cons pe_str (.cons (pe_fmt (pv 1)) (.cons pe_str .nil)))) pa_nil)))))
    (pss_one (EXV.ps_ostG EXV.base_ve (pv 0) (pv 1)))), ?_⟩
  refine ⟨_, rfl, _, rfl, app1 (by decide), _, rfl, .inl ⟨k, rfl, sl_small (by omega), _, rfl, app2 (by decide) (by omega), _, rfl, app3 (by decide) (by omega) (by decide), a, _, _, _, rfl, ET.d_Unfit.T, nf_at (f := "word") (fs := ["word", "name"]) ET.d_Unfit.nF (by decide), ha, fun d h1 h2 => ?_⟩⟩
  exact ⟨_, rfl, _, rfl, a, _, rfl, ET.d_Unfit.T, nf_at (f := "name") (fs := ["word", "name"]) ET.d_Unfit.nF (by decide), .inr ⟨d, _, upd_same, by rw [upd_ne h2, upd_same], by show 1 ≤ 900; decide, q _ (made2 h2) (kept2 h1)⟩⟩
theorem ok_init_InvalidCommand (ET : ExE K mg B) : FnOk P w K mg base CX0 2 B.e_InvalidCommand.f B.e_InvalidCommand.fd ["self", "index"] (spEI B.e_InvalidCommand.C "invalidcommand" "index") := by
  refine ET.d_InvalidCommand.F.ok sc_InvalidCommand___init__ (fun vs H Q E h => ?_) (fun cdv ar outer s H vs Q E hr h => ?_)
  · obtain ⟨a, k, rfl, _⟩ := h
    rfl
  obtain ⟨a, k, rfl, hk, ha, q⟩ := h
  refine ⟨_, (pss_cons (ps_expr (EX.pe_indef ET.cr_GrainError ET.cv_GrainError ET.F_GrainError.kp (ok_init_GrainError ET) (hr.mono (by decide)) ET.b_GrainError .nil pass0 (by rfl) ET.g_GrainError (pa_cons (pv 0) (pa_cons pe_str (pa_cons (pe_joined (.cons pe_str (.cons (pe_fmt (pv 1)) (.cons pe_str .nil)))) pa_nil)))))
    (pss_one (EXV.ps_ostG EXV.base_ve (pv 0) (pv 1)))), ?_⟩
  refine ⟨_, rfl, _, rfl, app1 (by decide), _, rfl, .inr ⟨k, rfl, log_lt hk, _, rfl, app2 (by decide) (int_txt hk), _, rfl, app3 (by decide) (int_txt hk) (by decide), a, _, _, _, rfl, ET.d_InvalidCommand.T, nf_at (f := "word") (fs := ["word", "index"]) ET.d_InvalidCommand.nF (by decide), ha, fun d h1 h2 => ?_⟩⟩
  exact ⟨_, rfl, _, rfl, a, _, rfl, ET.d_InvalidCommand.T, nf_at (f := "index") (fs := ["word", "index"]) ET.d_InvalidCommand.nF (by decide), .inr ⟨d, _, upd_same, by rw [upd_ne h2, upd_same], by show 1 ≤ 900; decide, q _ (made2 h2) (kept2 h1)⟩⟩
theorem ok_init_InvalidDocument (ET : ExE K mg B) : FnOk P w K mg base CX0 2 B.e_InvalidDocument.f B.e_InvalidDocument.fd ["self", "row"] (spEI B.e_InvalidDocument.C "invaliddocument" "row") := by
  refine ET.d_InvalidDocument.F.ok sc_InvalidDocument___init__ (fun vs H Q E h => ?_) (fun cdv ar outer s H vs Q E hr h => ?_)
  · obtain ⟨a, k, rfl, _⟩ := h
    rfl
  obtain ⟨a, k, rfl, hk, ha, q⟩ := h
  refine ⟨_, (pss_cons (ps_expr (EX.pe_indef ET.cr_GrainError ET.cv_GrainError ET.F_GrainError.kp (ok_init_GrainError ET) (hr.mono (by decide)) ET.b_GrainError .nil pass0 (by rfl) ET.g_GrainError (pa_cons (pv 0) (pa_cons pe_str (pa_cons (pe_joined (.cons pe_str (.cons (pe_fmt (pv 1)) (.cons pe_str .nil)))) pa_nil)))))
    (pss_one (EXV.ps_ostG EXV.base_ve (pv 0) (pv 1)))), ?_⟩
  refine ⟨_, rfl, _, rfl, app1 (by decide), _, rfl, .inr ⟨k, rfl, log_lt hk, _, rfl, app2 (by decide) (int_txt hk), _, rfl, app3 (by decide) (int_txt hk) (by decide), a, _, _, _, rfl, ET.d_InvalidDocument.T, nf_at (f := "word") (fs := ["word", "row"]) ET.d_InvalidDocument.nF (by decide), ha, fun d h1 h2 => ?_⟩⟩
  exact ⟨_, rfl, _, rfl, a, _, rfl, ET.d_InvalidDocument.T, nf_at (f := "row") (fs := ["word", "row"]) ET.d_InvalidDocument.nF (by decide), .inr ⟨d, _, upd_same, by rw [upd_ne h2, upd_same], by show 1 ≤ 900; decide, q _ (made2 h2) (kept2 h1)⟩⟩
theorem ok_init_UnknownPiece (ET : ExE K mg B) : FnOk P w K mg base CX0 2 B.e_UnknownPiece.f B.e_UnknownPiece.fd ["self", "name"] (spES B.e_UnknownPiece.C "unknownpiece" "name") := by
  refine ET.d_UnknownPiece.F.ok sc_UnknownPiece___init__ (fun vs H Q E h => ?_) (fun cdv ar outer s H vs Q E hr h => ?_)
  · obtain ⟨a, k, rfl, _⟩ := h
    rfl
  obtain ⟨a, k, rfl, hk, ha, q⟩ := h
  refine ⟨_, (pss_cons (ps_expr (EX.pe_indef ET.cr_MissingError ET.cv_MissingError ET.F_MissingError.kp (ok_init_MissingError ET) (hr.mono (by decide)) ET.b_MissingError .nil pass0 (by rfl) ET.g_MissingError (pa_cons (pv 0) (pa_cons pe_str (pa_cons (pe_joined (.cons pe_str (.cons (pe_fmt (pv 1)) .nil))) pa_nil)))))
    (pss_one (EXV.ps_ostG EXV.base_le (pv 0) (pv 1)))), ?_⟩
  refine ⟨_, rfl, _, rfl, app1 (by decide), _, rfl, .inl ⟨k, rfl, sl_small (by omega), _, rfl, app2 (by decide) (by omega), a, _, _, _, rfl, ET.d_UnknownPiece.T, nf_at (f := "word") (fs := ["word", "name"]) ET.d_UnknownPiece.nF (by decide), ha, fun d h1 h2 => ?_⟩⟩
  exact ⟨_, rfl, _, rfl, a, _, rfl, ET.d_UnknownPiece.T, nf_at (f := "name") (fs := ["word", "name"]) ET.d_UnknownPiece.nF (by decide), .inr ⟨d, _, upd_same, by rw [upd_ne h2, upd_same], by show 1 ≤ 900; decide, q _ (made2 h2) (kept2 h1)⟩⟩
theorem ok_init_UnknownName (ET : ExE K mg B) : FnOk P w K mg base CX0 2 B.e_UnknownName.f B.e_UnknownName.fd ["self", "name"] (spES B.e_UnknownName.C "unknownname" "name") := by
  refine ET.d_UnknownName.F.ok sc_UnknownName___init__ (fun vs H Q E h => ?_) (fun cdv ar outer s H vs Q E hr h => ?_)
  · obtain ⟨a, k, rfl, _⟩ := h
    rfl
  obtain ⟨a, k, rfl, hk, ha, q⟩ := h
  refine ⟨_, (pss_cons (ps_expr (EX.pe_indef ET.cr_MissingError ET.cv_MissingError ET.F_MissingError.kp (ok_init_MissingError ET) (hr.mono (by decide)) ET.b_MissingError .nil pass0 (by rfl) ET.g_MissingError (pa_cons (pv 0) (pa_cons pe_str (pa_cons (pe_joined (.cons pe_str (.cons (pe_fmt (pv 1)) .nil))) pa_nil)))))
    (pss_one (EXV.ps_ostG EXV.base_le (pv 0) (pv 1)))), ?_⟩
  refine ⟨_, rfl, _, rfl, app1 (by decide), _, rfl, .inl ⟨k, rfl, sl_small (by omega), _, rfl, app2 (by decide) (by omega), a, _, _, _, rfl, ET.d_UnknownName.T, nf_at (f := "word") (fs := ["word", "name"]) ET.d_UnknownName.nF (by decide), ha, fun d h1 h2 => ?_⟩⟩
  exact ⟨_, rfl, _, rfl, a, _, rfl, ET.d_UnknownName.T, nf_at (f := "name") (fs := ["word", "name"]) ET.d_UnknownName.nF (by decide), .inr ⟨d, _, upd_same, by rw [upd_ne h2, upd_same], by show 1 ≤ 900; decide, q _ (made2 h2) (kept2 h1)⟩⟩
end

-- CUT3
/-! ## The table of the errors -/
def wordsL : List Str := ["invalidfraction", "invalidstatement", "toolarge", "unknownplayer", "duplicatepiece", "invalidweights", "invalidworths", "invalidanswer", "brokenrule", "nothingexpected", "nothingleft", "parseerror", "invalidname", "inuse", "cycle", "unfit", "invalidcommand", "invaliddocument", "unknownpiece", "unknownname"]
def word (i : Nat) : Str := wordsL.getD i ""
def fname (i : Nat) : Option Str := ([none, some "place", some "limit", some "player", some "name", none, none, none, some "player", none, none, some "place", some "name", some "name", some "name", some "name", some "index", some "row", some "name", some "name"] : List (Option Str)).getD i none
def fldV (k : Int) (t : Str) (i : Nat) : V := match ([0, 1, 1, 1, 2, 0, 0, 0, 1, 0, 0, 1, 2, 2, 2, 2, 1, 1, 2, 2] : List Nat).getD i 0 with | 0 => .non | 1 => .int k | _ => .str t
def fsOf (k : Int) (t : Str) (i : Nat) : List (Str × V) := match fname i with | none => [("word", .str (word i))] | some f => [(f, fldV k t i), ("word", .str (word i))]
theorem fs_word (k : Int) (t : Str) : ∀ (i : Nat), i < 20 → (fsOf k t i).lookup ("word" : Str) = some (.str (word i))
  | 0, _ => rfl
  | 1, _ => rfl
  | 2, _ => rfl
  | 3, _ => rfl
  | 4, _ => rfl
  | 5, _ => rfl
  | 6, _ => rfl
  | 7, _ => rfl
  | 8, _ => rfl
  | 9, _ => rfl
  | 10, _ => rfl
  | 11, _ => rfl
  | 12, _ => rfl
  | 13, _ => rfl
  | 14, _ => rfl
  | 15, _ => rfl
  | 16, _ => rfl
  | 17, _ => rfl
  | 18, _ => rfl
  | 19, _ => rfl
  | n + 20, h => absurd h (by omega)
theorem fs_fld {k : Int} {t : Str} {i : Nat} {f : Str} (h : fname i = some f) : (fsOf k t i).lookup f = some (fldV k t i) := by
  unfold fsOf
  rw [h]
  show (match f == f with | true => _ | false => _) = _
  rw [beq_self_eq_true]
theorem fld_none {k : Int} {t : Str} : ∀ (i : Nat), i < 20 → fname i = none → fldV k t i = .non
  | 0, _, h => rfl
  | 1, _, h => nomatch h
  | 2, _, h => nomatch h
  | 3, _, h => nomatch h
  | 4, _, h => nomatch h
  | 5, _, h => rfl
  | 6, _, h => rfl
  | 7, _, h => rfl
  | 8, _, h => nomatch h
  | 9, _, h => rfl
  | 10, _, h => rfl
  | 11, _, h => nomatch h
  | 12, _, h => nomatch h
  | 13, _, h => nomatch h
  | 14, _, h => nomatch h
  | 15, _, h => nomatch h
  | 16, _, h => nomatch h
  | 17, _, h => nomatch h
  | 18, _, h => nomatch h
  | 19, _, h => nomatch h
  | n + 20, h, _ => absurd h (by omega)
def AdE.cs (B : AdE) : List Addr := B.all.map (·.C)
/-- what the program's text says of a class of the table -/
structure Ok1 (K : PySem.W.Frag) (i : Nat) (C : Addr) : Prop where
  xf : XfC K C
  xc : ExcC K C
  nw : PySem.W.findIn K (.ref C) "word" = some none
  nf : ∀ f, fname i = some f → PySem.W.findIn K (.ref C) f = some none
section
variable {P : Program} {w : World} {K : PySem.W.Frag} {mg : Str → Option Value} {base : Heap} {A : Ad} {B : AdE}
theorem ok1 (ET : ExE K mg B) : ∀ (i : Nat) (C : Addr), B.cs[i]? = some C → Ok1 K i C
  | 0, _, e => by cases e; exact ⟨ET.d_InvalidFraction.xf, ET.d_InvalidFraction.xc, nf_at (f := "word") (fs := ["word"]) ET.d_InvalidFraction.nF (by decide), (fun _ h => nomatch h)⟩
  | 1, _, e => by cases e; exact ⟨ET.d_InvalidStatement.xf, ET.d_InvalidStatement.xc, nf_at (f := "word") (fs := ["word", "place"]) ET.d_InvalidStatement.nF (by decide), (fun f h => by cases h; exact nf_at (f := "place") (fs := ["word", "place"]) ET.d_InvalidStatement.nF (by decide))⟩
  | 2, _, e => by cases e; exact ⟨ET.d_TooLarge.xf, ET.d_TooLarge.xc, nf_at (f := "word") (fs := ["word", "limit"]) ET.d_TooLarge.nF (by decide), (fun f h => by cases h; exact nf_at (f := "limit") (fs := ["word", "limit"]) ET.d_TooLarge.nF (by decide))⟩
  | 3, _, e => by cases e; exact ⟨ET.d_UnknownPlayer.xf, ET.d_UnknownPlayer.xc, nf_at (f := "word") (fs := ["word", "player"]) ET.d_UnknownPlayer.nF (by decide), (fun f h => by cases h; exact nf_at (f := "player") (fs := ["word", "player"]) ET.d_UnknownPlayer.nF (by decide))⟩
  | 4, _, e => by cases e; exact ⟨ET.d_DuplicatePiece.xf, ET.d_DuplicatePiece.xc, nf_at (f := "word") (fs := ["word", "name"]) ET.d_DuplicatePiece.nF (by decide), (fun f h => by cases h; exact nf_at (f := "name") (fs := ["word", "name"]) ET.d_DuplicatePiece.nF (by decide))⟩
  | 5, _, e => by cases e; exact ⟨ET.d_InvalidWeights.xf, ET.d_InvalidWeights.xc, nf_at (f := "word") (fs := ["word"]) ET.d_InvalidWeights.nF (by decide), (fun _ h => nomatch h)⟩
  | 6, _, e => by cases e; exact ⟨ET.d_InvalidWorths.xf, ET.d_InvalidWorths.xc, nf_at (f := "word") (fs := ["word"]) ET.d_InvalidWorths.nF (by decide), (fun _ h => nomatch h)⟩
  | 7, _, e => by cases e; exact ⟨ET.d_InvalidAnswer.xf, ET.d_InvalidAnswer.xc, nf_at (f := "word") (fs := ["word"]) ET.d_InvalidAnswer.nF (by decide), (fun _ h => nomatch h)⟩
  | 8, _, e => by cases e; exact ⟨ET.d_BrokenRule.xf, ET.d_BrokenRule.xc, nf_at (f := "word") (fs := ["word", "player"]) ET.d_BrokenRule.nF (by decide), (fun f h => by cases h; exact nf_at (f := "player") (fs := ["word", "player"]) ET.d_BrokenRule.nF (by decide))⟩
  | 9, _, e => by cases e; exact ⟨ET.d_NothingExpected.xf, ET.d_NothingExpected.xc, nf_at (f := "word") (fs := ["word"]) ET.d_NothingExpected.nF (by decide), (fun _ h => nomatch h)⟩
  | 10, _, e => by cases e; exact ⟨ET.d_NothingLeft.xf, ET.d_NothingLeft.xc, nf_at (f := "word") (fs := ["word"]) ET.d_NothingLeft.nF (by decide), (fun _ h => nomatch h)⟩
  | 11, _, e => by cases e; exact ⟨ET.d_ParseError.xf, ET.d_ParseError.xc, nf_at (f := "word") (fs := ["word", "place"]) ET.d_ParseError.nF (by decide), (fun f h => by cases h; exact nf_at (f := "place") (fs := ["word", "place"]) ET.d_ParseError.nF (by decide))⟩
  | 12, _, e => by cases e; exact ⟨ET.d_InvalidName.xf, ET.d_InvalidName.xc, nf_at (f := "word") (fs := ["word", "name"]) ET.d_InvalidName.nF (by decide), (fun f h => by cases h; exact nf_at (f := "name") (fs := ["word", "name"]) ET.d_InvalidName.nF (by decide))⟩
  | 13, _, e => by cases e; exact ⟨ET.d_InUse.xf, ET.d_InUse.xc, nf_at (f := "word") (fs := ["word", "name"]) ET.d_InUse.nF (by decide), (fun f h => by cases h; exact nf_at (f := "name") (fs := ["word", "name"]) ET.d_InUse.nF (by decide))⟩
  | 14, _, e => by cases e; exact ⟨ET.d_Cycle.xf, ET.d_Cycle.xc, nf_at (f := "word") (fs := ["word", "name"]) ET.d_Cycle.nF (by decide), (fun f h => by cases h; exact nf_at (f := "name") (fs := ["word", "name"]) ET.d_Cycle.nF (by decide))⟩
  | 15, _, e => by cases e; exact ⟨ET.d_Unfit.xf, ET.d_Unfit.xc, nf_at (f := "word") (fs := ["word", "name"]) ET.d_Unfit.nF (by decide), (fun f h => by cases h; exact nf_at (f := "name") (fs := ["word", "name"]) ET.d_Unfit.nF (by decide))⟩
  | 16, _, e => by cases e; exact ⟨ET.d_InvalidCommand.xf, ET.d_InvalidCommand.xc, nf_at (f := "word") (fs := ["word", "index"]) ET.d_InvalidCommand.nF (by decide), (fun f h => by cases h; exact nf_at (f := "index") (fs := ["word", "index"]) ET.d_InvalidCommand.nF (by decide))⟩
  | 17, _, e => by cases e; exact ⟨ET.d_InvalidDocument.xf, ET.d_InvalidDocument.xc, nf_at (f := "word") (fs := ["word", "row"]) ET.d_InvalidDocument.nF (by decide), (fun f h => by cases h; exact nf_at (f := "row") (fs := ["word", "row"]) ET.d_InvalidDocument.nF (by decide))⟩
  | 18, _, e => by cases e; exact ⟨ET.d_UnknownPiece.xf, ET.d_UnknownPiece.xc, nf_at (f := "word") (fs := ["word", "name"]) ET.d_UnknownPiece.nF (by decide), (fun f h => by cases h; exact nf_at (f := "name") (fs := ["word", "name"]) ET.d_UnknownPiece.nF (by decide))⟩
  | 19, _, e => by cases e; exact ⟨ET.d_UnknownName.xf, ET.d_UnknownName.xc, nf_at (f := "word") (fs := ["word", "name"]) ET.d_UnknownName.nF (by decide), (fun f h => by cases h; exact nf_at (f := "name") (fs := ["word", "name"]) ET.d_UnknownName.nF (by decide))⟩
  | n + 20, _, e => by rw [List.getElem?_eq_none (by show 20 ≤ n + 20; omega)] at e; cases e
def spField (B : AdE) : Sp := fun vs H Q _ => ∃ (a C : Addr) (i : Nat) (k : Int) (t : Str), vs = [.ref a] ∧ i < 20 ∧ B.cs[i]? = some C ∧ Made H a C (fsOf k t i) ∧ ∀ H', Same H H' → Q (fldV k t i) H'
def basesL (i : Nat) : List V := [.bl (decide (i < 18)), .bl (decide (i < 18)), .bl (!decide (i < 18)), .bl (!decide (i < 18))]
def kindsL (i : Nat) : List V := (List.range 20).map fun j => .bl (decide (j = i))
def spBases (B : AdE) : Sp := fun vs H Q _ => ∃ (a C : Addr) (i : Nat) (fs : List (Str × V)), vs = [.ref a] ∧ i < 20 ∧ B.cs[i]? = some C ∧ Made H a C fs ∧ ∀ D H', Same H H' → H' D = some (.lst (basesL i)) → Q (.ref D) H'
def spKinds (B : AdE) : Sp := fun vs H Q _ => ∃ (a C : Addr) (i : Nat) (fs : List (Str × V)), vs = [.ref a] ∧ i < 20 ∧ B.cs[i]? = some C ∧ Made H a C fs ∧ ∀ D H', Same H H' → H' D = some (.lst (kindsL i)) → Q (.ref D) H'
theorem t_pl : ∀ i < 20, inV (.str (word i)) [.str "unknownplayer", .str "brokenrule"] = true → fname i = some "player" := by decide +kernel
theorem t_nm : ∀ i < 20, inV (.str (word i)) [.str "unknownpiece", .str "duplicatepiece", .str "invalidname", .str "unknownname", .str "inuse", .str "cycle", .str "unfit"] = true → fname i = some "name" := by decide +kernel
theorem t_pc : ∀ i < 20, inV (.str (word i)) [.str "invalidstatement", .str "parseerror"] = true → fname i = some "place" := by decide +kernel
theorem t_li : ∀ i < 20, inV (.str (word i)) [.str "toolarge", .str "invalidcommand"] = true → if decide (V.str (word i) = V.str "toolarge") = true then fname i = some "limit" else fname i = some "index" := by decide +kernel
theorem t_rw0 : ∀ i < 20, (!inV (.str (word i)) [.str "unknownplayer", .str "brokenrule"] && !inV (.str (word i)) [.str "unknownpiece", .str "duplicatepiece", .str "invalidname", .str "unknownname", .str "inuse", .str "cycle", .str "unfit"] &&
    !inV (.str (word i)) [.str "invalidstatement", .str "parseerror"] && !inV (.str (word i)) [.str "toolarge", .str "invalidcommand"]) = true → if decide (V.str (word i) = V.str "invaliddocument") = true then fname i = some "row" else fname i = none := by decide +kernel
theorem t_rw (i : Nat) (h : i < 20) (h1 : inV (.str (word i)) [.str "unknownplayer", .str "brokenrule"] = false) (h2 : inV (.str (word i)) [.str "unknownpiece", .str "duplicatepiece", .str "invalidname", .str "unknownname", .str "inuse", .str "cycle", .str "unfit"] = false)
    (h3 : inV (.str (word i)) [.str "invalidstatement", .str "parseerror"] = false) (h4 : inV (.str (word i)) [.str "toolarge", .str "invalidcommand"] = false) : if decide (V.str (word i) = V.str "invaliddocument") = true then fname i = some "row" else fname i = none := t_rw0 i h (by rw [h1, h2, h3, h4]; rfl)
theorem Made.fld {H : Hp} {a C : Addr} {i : Nat} {k : Int} {t f : Str} (M : Made H a C (fsOf k t i)) (h : fname i = some f) : ∃ d, H a = some (exo a C (some d)) ∧ H d = some (exd d (fsOf k t i)) ∧ (fsOf k t i).lookup f = some (fldV k t i) := by
  obtain ⟨d, h1, h2⟩ := M
  exact ⟨d, h1, h2, fs_fld h⟩
theorem ok_field (T : Txt K mg A) (ET : ExE K mg B) : FnOk P w K mg base CX0 1 A.f_field A.fd_field ["_law_e"] (spField B) := by
  refine T.d_field.F.ok sc_field (fun vs H Q E h => ?_) (fun cdv ar outer s H vs Q E hr h => ?_)
  · obtain ⟨a, C, i, k, t, rfl, _⟩ := h
    rfl
  obtain ⟨a, C, i, k, t, rfl, hi, hC, M, q⟩ := h
  have O := ok1 ET i C hC
  refine ⟨_, (pss_cons (ps_if (pt_cmpR (r := rIn K false) op_in_seq (EXV.pe_fldE (pv 0)) (pe_tup (pa_cons pe_str (pa_cons pe_str pa_nil))) (by with_unfolding_all rfl)) (pss_one (ps_ret (EXV.pe_fldE (pv 0)))) pss_nil)
    (pss_cons (ps_if (pt_cmpR (r := rIn K false) op_in_seq (EXV.pe_fldE (pv 0)) (pe_tup (pa_cons pe_str (pa_cons pe_str (pa_cons pe_str (pa_cons pe_str (pa_cons pe_str (pa_cons pe_str (pa_cons pe_str pa_nil)))))))) (by with_unfolding_all rfl)) (pss_one (ps_ret (EXV.pe_fldE (pv 0)))) pss_nil)
    (pss_cons (ps_if (pt_cmpR (r := rIn K false) op_in_seq (EXV.pe_fldE (pv 0)) (pe_tup (pa_cons pe_str (pa_cons pe_str pa_nil))) (by with_unfolding_all rfl)) (pss_one (ps_ret (EXV.pe_fldE (pv 0)))) pss_nil)
    (pss_cons (ps_if (pt_cmpR (r := rIn K false) op_in_seq (EXV.pe_fldE (pv 0)) (pe_tup (pa_cons pe_str (pa_cons pe_str pa_nil))) (by with_unfolding_all rfl)) (pss_one (ps_ret (pe_ifExp (pt_cmpR op_eq (EXV.pe_fldE (pv 0)) pe_str (nomark _)) (EXV.pe_fldE (pv 0)) (EXV.pe_fldE (pv 0))))) pss_nil)
    (pss_one (ps_ret (pe_ifExp (pt_cmpR op_eq (EXV.pe_fldE (pv 0)) pe_str (nomark _)) (EXV.pe_fldE (pv 0)) pe_non))))))), ?_⟩
  have rd : ∀ {H' : Hp} {Q : VK}, Same H H' → Q (.str (word i)) H' → EXV.tFldE K "word" (tVar 0) (L2.start ["_law_e"] [V.ref a]) H' Q := fun {H' Q} e z => by
    obtain ⟨d, h1, h2⟩ := M.mono e
    exact ⟨_, rfl, a, C, d, _, _, rfl, O.xf, O.nw, h1, h2, fs_word k t i hi, z⟩
  have rf : ∀ {H' : Hp} {Q : VK} {f : Str}, Same H H' → fname i = some f → Q (fldV k t i) H' → EXV.tFldE K f (tVar 0) (L2.start ["_law_e"] [V.ref a]) H' Q := fun {H' Q f} e hf z => by
    obtain ⟨d, h1, h2⟩ := M.mono e
    exact ⟨_, rfl, a, C, d, _, _, rfl, O.xf, O.nf f hf, h1, h2, fs_fld hf, z⟩
  refine rd (Same.refl H) ⟨slr rfl, fun p1 n1 => ⟨p1, _, rfl, .inr (SqT.of upd_same), rfl, rfl, _, rfl, ?_⟩⟩
  have e1 := Same.new n1 (.tup [V.str "unknownplayer", V.str "brokenrule"])
  cases c1 : inV (.str (word i)) [.str "unknownplayer", .str "brokenrule"] with
  | true => exact iteT (rf e1 (t_pl i hi c1) (q _ e1))
  | false =>
  refine iteF ?_
  refine rd e1 ⟨slr rfl, fun p2 n2 => ⟨p2, _, rfl, .inr (SqT.of upd_same), rfl, rfl, _, rfl, ?_⟩⟩
  have e2 := e1.trans (Same.new n2 (.tup [V.str "unknownpiece", V.str "duplicatepiece", V.str "invalidname", V.str "unknownname", V.str "inuse", V.str "cycle", V.str "unfit"]))
  cases c2 : inV (.str (word i)) [.str "unknownpiece", .str "duplicatepiece", .str "invalidname", .str "unknownname", .str "inuse", .str "cycle", .str "unfit"] with
  | true => exact iteT (rf e2 (t_nm i hi c2) (q _ e2))
  | false =>
  refine iteF ?_
  refine rd e2 ⟨slr rfl, fun p3 n3 => ⟨p3, _, rfl, .inr (SqT.of upd_same), rfl, rfl, _, rfl, ?_⟩⟩
  have e3 := e2.trans (Same.new n3 (.tup [V.str "invalidstatement", V.str "parseerror"]))
  cases c3 : inV (.str (word i)) [.str "invalidstatement", .str "parseerror"] with
  | true => exact iteT (rf e3 (t_pc i hi c3) (q _ e3))
  | false =>
  refine iteF ?_
  refine rd e3 ⟨slr rfl, fun p4 n4 => ⟨p4, _, rfl, .inr (SqT.of upd_same), rfl, rfl, _, rfl, ?_⟩⟩
  have e4 := e3.trans (Same.new n4 (.tup [V.str "toolarge", V.str "invalidcommand"]))
  cases c4 : inV (.str (word i)) [.str "toolarge", .str "invalidcommand"] with
  | true =>
    refine iteT ?_
    dsimp only [tRet, tIf, tTest, tOp]
    refine rd e4 ⟨rfl, _, rfl, ?_⟩
    have z := t_li i hi c4
    cases c5 : decide (V.str (word i) = V.str "toolarge") with
    | true =>
      rw [c5] at z
      exact iteT (rf e4 z (q _ e4))
    | false =>
      rw [c5] at z
      exact iteF (rf e4 z (q _ e4))
  | false =>
  refine iteF ?_
  dsimp only [tNext, tRet, tIf, tTest, tOp]
  refine rd e4 ⟨rfl, _, rfl, ?_⟩
  have z := t_rw i hi c1 c2 c3 c4
  cases c5 : decide (V.str (word i) = V.str "invaliddocument") with
  | true =>
    rw [c5] at z
    exact iteT (rf e4 z (q _ e4))
  | false =>
    rw [c5] at z
    have fin := q _ e4
    rw [fld_none i hi z] at fin
    exact iteF fin
theorem ok_bases (T : Txt K mg A) (ET : ExE K mg B) : FnOk P w K mg base CX0 1 A.f_bases A.fd_bases ["_law_e"] (spBases B) := by
  refine T.d_bases.F.ok sc_bases (fun vs H Q E h => ?_) (fun cdv ar outer s H vs Q E hr h => ?_)
  · obtain ⟨a, C, i, fs, rfl, _⟩ := h
    rfl
  obtain ⟨a, C, i, fs, rfl, hi, hC, ⟨d, h1, h2⟩, q⟩ := h
  have O := ok1 ET i C hC
  refine ⟨_, (pss_cons (ps_set (i := 1) sc_bases.nd rfl (Or.inl rfl) (pe_lst (pa_cons (pe_callB (r := EXV.rIsO K) EXV.call_isO (by rfl) T.isinstance (by decide +kernel) (pa_cons (pv 0) (pa_cons (pe_glob (v := .ref B.e_GrainError.C) (by rfl) ET.g_GrainError rfl) pa_nil))) (pa_cons (pe_callB (r := EXV.rIsO K) EXV.call_isO (by rfl) T.isinstance (by decide +kernel) (pa_cons (pv 0) (pa_cons (pe_bltn (v := .ty "ValueError") (u := .type "ValueError") (by rfl) ET.n_ValueError (by decide +kernel) rfl) pa_nil))) pa_nil))))
    (pss_one (ps_ret (pe_op op_cat (pv 1) (pe_lst (pa_cons (pe_callB (r := EXV.rIsO K) EXV.call_isO (by rfl) T.isinstance (by decide +kernel) (pa_cons (pv 0) (pa_cons (pe_glob (v := .ref B.e_MissingError.C) (by rfl) ET.g_MissingError rfl) pa_nil))) (pa_cons (pe_callB (r := EXV.rIsO K) EXV.call_isO (by rfl) T.isinstance (by decide +kernel) (pa_cons (pv 0) (pa_cons (pe_bltn (v := .ty "LookupError") (u := .type "LookupError") (by rfl) ET.n_LookupError (by decide +kernel) rfl) pa_nil))) pa_nil))))))), ?_⟩
  refine ⟨_, rfl, a, C, d, fs, _, _, _, rfl, O.xc, h1, h2, (fun _ r => r), ET.kG i C hC, _, rfl, a, C, d, fs, _, _, _, rfl, O.xc, h1, h2, (fun _ r => r), ET.kV i C hC, slr rfl, fun D hD => ?_⟩
  have e1 := Same.new hD (.lst [V.bl (decide (i < 18)), V.bl (decide (i < 18))])
  have g1 : upd H D (.lst [V.bl (decide (i < 18)), V.bl (decide (i < 18))]) D = _ := upd_same
  generalize upd H D (.lst [V.bl (decide (i < 18)), V.bl (decide (i < 18))]) = H1 at e1 g1
  refine ⟨_, rfl, _, rfl, a, C, d, fs, _, _, _, rfl, O.xc, e1 _ _ h1, e1 _ _ h2, (fun _ r => r), ET.kM i C hC, _, rfl, a, C, d, fs, _, _, _, rfl, O.xc, e1 _ _ h1, e1 _ _ h2, (fun _ r => r), ET.kL i C hC, slr rfl, fun D2 hD2 => ?_⟩
  have e2 := Same.new hD2 (.lst [V.bl (!decide (i < 18)), V.bl (!decide (i < 18))])
  refine ⟨D, D2, _, _, rfl, rfl, e2 _ _ g1, upd_same, slr rfl, fun D3 hD3 => ?_⟩
  exact q D3 _ (e1.trans (e2.trans (Same.new hD3 _))) upd_same
theorem ok_kinds (T : Txt K mg A) (ET : ExE K mg B) : FnOk P w K mg base CX0 1 A.f_kinds A.fd_kinds ["_law_e"] (spKinds B) := by
  refine T.d_kinds.F.ok sc_kinds (fun vs H Q E h => ?_) (fun cdv ar outer s H vs Q E hr h => ?_)
  · obtain ⟨a, C, i, fs, rfl, _⟩ := h
    rfl
  obtain ⟨a, C, i, fs, rfl, hi, hC, ⟨d, h1, h2⟩, q⟩ := h
  have O := ok1 ET i C hC
  refine ⟨_, (pss_cons (ps_set (i := 1) sc_kinds.nd rfl (Or.inl rfl) (pe_lst (pa_cons (pe_callB (r := EXV.rIsO K) EXV.call_isO (by rfl) T.isinstance (by decide +kernel) (pa_cons (pv 0) (pa_cons (pe_glob (v := .ref B.e_InvalidFraction.C) (by rfl) ET.d_InvalidFraction.g rfl) pa_nil))) (pa_cons (pe_callB (r := EXV.rIsO K) EXV.call_isO (by rfl) T.isinstance (by decide +kernel) (pa_cons (pv 0) (pa_cons (pe_glob (v := .ref B.e_InvalidStatement.C) (by rfl) ET.d_InvalidStatement.g rfl) pa_nil))) (pa_cons (pe_callB (r := EXV.rIsO K) EXV.call_isO (by rfl) T.isinstance (by decide +kernel) (pa_cons (pv 0) (pa_cons (pe_glob (v := .ref B.e_TooLarge.C) (by rfl) ET.d_TooLarge.g rfl) pa_nil))) pa_nil)))))
    (pss_cons (ps_set (i := 1) sc_kinds.nd rfl (Or.inl rfl) (pe_op op_cat (pv 1) (pe_lst (pa_cons (pe_callB (r := EXV.rIsO K) EXV.call_isO (by rfl) T.isinstance (by decide +kernel) (pa_cons (pv 0) (pa_cons (pe_glob (v := .ref B.e_UnknownPlayer.C) (by rfl) ET.d_UnknownPlayer.g rfl) pa_nil))) (pa_cons (pe_callB (r := EXV.rIsO K) EXV.call_isO (by rfl) T.isinstance (by decide +kernel) (pa_cons (pv 0) (pa_cons (pe_glob (v := .ref B.e_DuplicatePiece.C) (by rfl) ET.d_DuplicatePiece.g rfl) pa_nil))) (pa_cons (pe_callB (r := EXV.rIsO K) EXV.call_isO (by rfl) T.isinstance (by decide +kernel) (pa_cons (pv 0) (pa_cons (pe_glob (v := .ref B.e_InvalidWeights.C) (by rfl) ET.d_InvalidWeights.g rfl) pa_nil))) pa_nil))))))
    (pss_cons (ps_set (i := 1) sc_kinds.nd rfl (Or.inl rfl) (pe_op op_cat (pv 1) (pe_lst (pa_cons (pe_callB (r := EXV.rIsO K) EXV.call_isO (by rfl) T.isinstance (by decide +kernel) (pa_cons (pv 0) (pa_cons (pe_glob (v := .ref B.e_InvalidWorths.C) (by rfl) ET.d_InvalidWorths.g rfl) pa_nil))) (pa_cons (pe_callB (r := EXV.rIsO K) EXV.call_isO (by rfl) T.isinstance (by decide +kernel) (pa_cons (pv 0) (pa_cons (pe_glob (v := .ref B.e_InvalidAnswer.C) (by rfl) ET.d_InvalidAnswer.g rfl) pa_nil))) (pa_cons (pe_callB (r := EXV.rIsO K) EXV.call_isO (by rfl) T.isinstance (by decide +kernel) (pa_cons (pv 0) (pa_cons (pe_glob (v := .ref B.e_BrokenRule.C) (by rfl) ET.d_BrokenRule.g rfl) pa_nil))) pa_nil))))))
    (pss_cons (ps_set (i := 1) sc_kinds.nd rfl (Or.inl rfl) (pe_op op_cat (pv 1) (pe_lst (pa_cons (pe_callB (r := EXV.rIsO K) EXV.call_isO (by rfl) T.isinstance (by decide +kernel) (pa_cons (pv 0) (pa_cons (pe_glob (v := .ref B.e_NothingExpected.C) (by rfl) ET.d_NothingExpected.g rfl) pa_nil))) (pa_cons (pe_callB (r := EXV.rIsO K) EXV.call_isO (by rfl) T.isinstance (by decide +kernel) (pa_cons (pv 0) (pa_cons (pe_glob (v := .ref B.e_NothingLeft.C) (by rfl) ET.d_NothingLeft.g rfl) pa_nil))) (pa_cons (pe_callB (r := EXV.rIsO K) EXV.call_isO (by rfl) T.isinstance (by decide +kernel) (pa_cons (pv 0) (pa_cons (pe_glob (v := .ref B.e_ParseError.C) (by rfl) ET.d_ParseError.g rfl) pa_nil))) pa_nil))))))
    (pss_cons (ps_set (i := 1) sc_kinds.nd rfl (Or.inl rfl) (pe_op op_cat (pv 1) (pe_lst (pa_cons (pe_callB (r := EXV.rIsO K) EXV.call_isO (by rfl) T.isinstance (by decide +kernel) (pa_cons (pv 0) (pa_cons (pe_glob (v := .ref B.e_InvalidName.C) (by rfl) ET.d_InvalidName.g rfl) pa_nil))) (pa_cons (pe_callB (r := EXV.rIsO K) EXV.call_isO (by rfl) T.isinstance (by decide +kernel) (pa_cons (pv 0) (pa_cons (pe_glob (v := .ref B.e_InUse.C) (by rfl) ET.d_InUse.g rfl) pa_nil))) (pa_cons (pe_callB (r := EXV.rIsO K) EXV.call_isO (by rfl) T.isinstance (by decide +kernel) (pa_cons (pv 0) (pa_cons (pe_glob (v := .ref B.e_Cycle.C) (by rfl) ET.d_Cycle.g rfl) pa_nil))) (pa_cons (pe_callB (r := EXV.rIsO K) EXV.call_isO (by rfl) T.isinstance (by decide +kernel) (pa_cons (pv 0) (pa_cons (pe_glob (v := .ref B.e_Unfit.C) (by rfl) ET.d_Unfit.g rfl) pa_nil))) pa_nil)))))))
    (pss_cons (ps_set (i := 1) sc_kinds.nd rfl (Or.inl rfl) (pe_op op_cat (pv 1) (pe_lst (pa_cons (pe_callB (r := EXV.rIsO K) EXV.call_isO (by rfl) T.isinstance (by decide +kernel) (pa_cons (pv 0) (pa_cons (pe_glob (v := .ref B.e_InvalidCommand.C) (by rfl) ET.d_InvalidCommand.g rfl) pa_nil))) (pa_cons (pe_callB (r := EXV.rIsO K) EXV.call_isO (by rfl) T.isinstance (by decide +kernel) (pa_cons (pv 0) (pa_cons (pe_glob (v := .ref B.e_InvalidDocument.C) (by rfl) ET.d_InvalidDocument.g rfl) pa_nil))) (pa_cons (pe_callB (r := EXV.rIsO K) EXV.call_isO (by rfl) T.isinstance (by decide +kernel) (pa_cons (pv 0) (pa_cons (pe_glob (v := .ref B.e_UnknownPiece.C) (by rfl) ET.d_UnknownPiece.g rfl) pa_nil))) pa_nil))))))
    (pss_one (ps_ret (pe_op op_cat (pv 1) (pe_lst (pa_cons (pe_callB (r := EXV.rIsO K) EXV.call_isO (by rfl) T.isinstance (by decide +kernel) (pa_cons (pv 0) (pa_cons (pe_glob (v := .ref B.e_UnknownName.C) (by rfl) ET.d_UnknownName.g rfl) pa_nil))) pa_nil))))))))))), ?_⟩
  refine ⟨_, rfl, a, C, d, fs, _, _, _, rfl, O.xc, h1, h2, (fun _ r => r), ET.kinds i 0 C _ hC rfl, _, rfl, a, C, d, fs, _, _, _, rfl, O.xc, h1, h2, (fun _ r => r), ET.kinds i 1 C _ hC rfl, _, rfl, a, C, d, fs, _, _, _, rfl, O.xc, h1, h2, (fun _ r => r), ET.kinds i 2 C _ hC rfl, slr rfl, fun M0 m0 => ?_⟩
  have e := Same.new m0 (.lst [V.bl (decide (0 = i)), V.bl (decide (1 = i)), V.bl (decide (2 = i))])
  have g : upd H M0 (.lst [V.bl (decide (0 = i)), V.bl (decide (1 = i)), V.bl (decide (2 = i))]) M0 = _ := upd_same
  generalize upd H M0 (.lst [V.bl (decide (0 = i)), V.bl (decide (1 = i)), V.bl (decide (2 = i))]) = H0 at e g
  have h1 := e _ _ h1
  have h2 := e _ _ h2
  refine ⟨_, rfl, _, rfl, a, C, d, fs, _, _, _, rfl, O.xc, h1, h2, (fun _ r => r), ET.kinds i 3 C _ hC rfl, _, rfl, a, C, d, fs, _, _, _, rfl, O.xc, h1, h2, (fun _ r => r), ET.kinds i 4 C _ hC rfl, _, rfl, a, C, d, fs, _, _, _, rfl, O.xc, h1, h2, (fun _ r => r), ET.kinds i 5 C _ hC rfl, slr rfl, fun M1 m1 => ?_⟩
  have f1 := Same.new m1 (.lst [V.bl (decide (3 = i)), V.bl (decide (4 = i)), V.bl (decide (5 = i))])
  refine ⟨M0, M1, _, _, rfl, rfl, f1 _ _ g, upd_same, slr rfl, fun N1 n1 => ?_⟩
  have f2 := f1.trans (Same.new n1 (.lst [V.bl (decide (0 = i)), V.bl (decide (1 = i)), V.bl (decide (2 = i)), V.bl (decide (3 = i)), V.bl (decide (4 = i)), V.bl (decide (5 = i))]))
  have g : upd (upd H0 M1 (.lst [V.bl (decide (3 = i)), V.bl (decide (4 = i)), V.bl (decide (5 = i))])) N1 (.lst ([V.bl (decide (0 = i)), V.bl (decide (1 = i)), V.bl (decide (2 = i))] ++ [V.bl (decide (3 = i)), V.bl (decide (4 = i)), V.bl (decide (5 = i))])) N1 = some (.lst [V.bl (decide (0 = i)), V.bl (decide (1 = i)), V.bl (decide (2 = i)), V.bl (decide (3 = i)), V.bl (decide (4 = i)), V.bl (decide (5 = i))]) := upd_same
  have f2 : Same H0 (upd (upd H0 M1 (.lst [V.bl (decide (3 = i)), V.bl (decide (4 = i)), V.bl (decide (5 = i))])) N1 (.lst ([V.bl (decide (0 = i)), V.bl (decide (1 = i)), V.bl (decide (2 = i))] ++ [V.bl (decide (3 = i)), V.bl (decide (4 = i)), V.bl (decide (5 = i))]))) := f2
  generalize upd (upd H0 M1 (.lst [V.bl (decide (3 = i)), V.bl (decide (4 = i)), V.bl (decide (5 = i))])) N1 (.lst ([V.bl (decide (0 = i)), V.bl (decide (1 = i)), V.bl (decide (2 = i))] ++ [V.bl (decide (3 = i)), V.bl (decide (4 = i)), V.bl (decide (5 = i))])) = H1 at f2 g
  have h1 := f2 _ _ h1
  have h2 := f2 _ _ h2
  have e := e.trans f2
  clear f1 f2
  refine ⟨_, rfl, _, rfl, a, C, d, fs, _, _, _, rfl, O.xc, h1, h2, (fun _ r => r), ET.kinds i 6 C _ hC rfl, _, rfl, a, C, d, fs, _, _, _, rfl, O.xc, h1, h2, (fun _ r => r), ET.kinds i 7 C _ hC rfl, _, rfl, a, C, d, fs, _, _, _, rfl, O.xc, h1, h2, (fun _ r => r), ET.kinds i 8 C _ hC rfl, slr rfl, fun M2 m2 => ?_⟩
  have f1 := Same.new m2 (.lst [V.bl (decide (6 = i)), V.bl (decide (7 = i)), V.bl (decide (8 = i))])
  refine ⟨N1, M2, _, _, rfl, rfl, f1 _ _ g, upd_same, slr rfl, fun N2 n2 => ?_⟩
  have f2 := f1.trans (Same.new n2 (.lst [V.bl (decide (0 = i)), V.bl (decide (1 = i)), V.bl (decide (2 = i)), V.bl (decide (3 = i)), V.bl (decide (4 = i)), V.bl (decide (5 = i)), V.bl (decide (6 = i)), V.bl (decide (7 = i)), V.bl (decide (8 = i))]))
  have g : upd (upd H1 M2 (.lst [V.bl (decide (6 = i)), V.bl (decide (7 = i)), V.bl (decide (8 = i))])) N2 (.lst ([V.bl (decide (0 = i)), V.bl (decide (1 = i)), V.bl (decide (2 = i)), V.bl (decide (3 = i)), V.bl (decide (4 = i)), V.bl (decide (5 = i))] ++ [V.bl (decide (6 = i)), V.bl (decide (7 = i)), V.bl (decide (8 = i))])) N2 = some (.lst [V.bl (decide (0 = i)), V.bl (decide (1 = i)), V.bl (decide (2 = i)), V.bl (decide (3 = i)), V.bl (decide (4 = i)), V.bl (decide (5 = i)), V.bl (decide (6 = i)), V.bl (decide (7 = i)), V.bl (decide (8 = i))]) := upd_same
  have f2 : Same H1 (upd (upd H1 M2 (.lst [V.bl (decide (6 = i)), V.bl (decide (7 = i)), V.bl (decide (8 = i))])) N2 (.lst ([V.bl (decide (0 = i)), V.bl (decide (1 = i)), V.bl (decide (2 = i)), V.bl (decide (3 = i)), V.bl (decide (4 = i)), V.bl (decide (5 = i))] ++ [V.bl (decide (6 = i)), V.bl (decide (7 = i)), V.bl (decide (8 = i))]))) := f2
  generalize upd (upd H1 M2 (.lst [V.bl (decide (6 = i)), V.bl (decide (7 = i)), V.bl (decide (8 = i))])) N2 (.lst ([V.bl (decide (0 = i)), V.bl (decide (1 = i)), V.bl (decide (2 = i)), V.bl (decide (3 = i)), V.bl (decide (4 = i)), V.bl (decide (5 = i))] ++ [V.bl (decide (6 = i)), V.bl (decide (7 = i)), V.bl (decide (8 = i))])) = H2 at f2 g
  have h1 := f2 _ _ h1
  have h2 := f2 _ _ h2
  have e := e.trans f2
  clear f1 f2
  refine ⟨_, rfl, _, rfl, a, C, d, fs, _, _, _, rfl, O.xc, h1, h2, (fun _ r => r), ET.kinds i 9 C _ hC rfl, _, rfl, a, C, d, fs, _, _, _, rfl, O.xc, h1, h2, (fun _ r => r), ET.kinds i 10 C _ hC rfl, _, rfl, a, C, d, fs, _, _, _, rfl, O.xc, h1, h2, (fun _ r => r), ET.kinds i 11 C _ hC rfl, slr rfl, fun M3 m3 => ?_⟩
  have f1 := Same.new m3 (.lst [V.bl (decide (9 = i)), V.bl (decide (10 = i)), V.bl (decide (11 = i))])
  refine ⟨N2, M3, _, _, rfl, rfl, f1 _ _ g, upd_same, slr rfl, fun N3 n3 => ?_⟩
  have f2 := f1.trans (Same.new n3 (.lst [V.bl (decide (0 = i)), V.bl (decide (1 = i)), V.bl (decide (2 = i)), V.bl (decide (3 = i)), V.bl (decide (4 = i)), V.bl (decide (5 = i)), V.bl (decide (6 = i)), V.bl (decide (7 = i)), V.bl (decide (8 = i)), V.bl (decide (9 = i)), V.bl (decide (10 = i)), V.bl (decide (11 = i))]))
  have g : upd (upd H2 M3 (.lst [V.bl (decide (9 = i)), V.bl (decide (10 = i)), V.bl (decide (11 = i))])) N3 (.lst ([V.bl (decide (0 = i)), V.bl (decide (1 = i)), V.bl (decide (2 = i)), V.bl (decide (3 = i)), V.bl (decide (4 = i)), V.bl (decide (5 = i)), V.bl (decide (6 = i)), V.bl (decide (7 = i)), V.bl (decide (8 = i))] ++ [V.bl (decide (9 = i)), V.bl (decide (10 = i)), V.bl (decide (11 = i))])) N3 = some (.lst [V.bl (decide (0 = i)), V.bl (decide (1 = i)), V.bl (decide (2 = i)), V.bl (decide (3 = i)), V.bl (decide (4 = i)), V.bl (decide (5 = i)), V.bl (decide (6 = i)), V.bl (decide (7 = i)), V.bl (decide (8 = i)), V.bl (decide (9 = i)), V.bl (decide (10 = i)), V.bl (decide (11 = i))]) := upd_same
  have f2 : Same H2 (upd (upd H2 M3 (.lst [V.bl (decide (9 = i)), V.bl (decide (10 = i)), V.bl (decide (11 = i))])) N3 (.lst ([V.bl (decide (0 = i)), V.bl (decide (1 = i)), V.bl (decide (2 = i)), V.bl (decide (3 = i)), V.bl (decide (4 = i)), V.bl (decide (5 = i)), V.bl (decide (6 = i)), V.bl (decide (7 = i)), V.bl (decide (8 = i))] ++ [V.bl (decide (9 = i)), V.bl (decide (10 = i)), V.bl (decide (11 = i))]))) := f2
  generalize upd (upd H2 M3 (.lst [V.bl (decide (9 = i)), V.bl (decide (10 = i)), V.bl (decide (11 = i))])) N3 (.lst ([V.bl (decide (0 = i)), V.bl (decide (1 = i)), V.bl (decide (2 = i)), V.bl (decide (3 = i)), V.bl (decide (4 = i)), V.bl (decide (5 = i)), V.bl (decide (6 = i)), V.bl (decide (7 = i)), V.bl (decide (8 = i))] ++ [V.bl (decide (9 = i)), V.bl (decide (10 = i)), V.bl (decide (11 = i))])) = H3 at f2 g
  have h1 := f2 _ _ h1
  have h2 := f2 _ _ h2
  have e := e.trans f2
  clear f1 f2
  refine ⟨_, rfl, _, rfl, a, C, d, fs, _, _, _, rfl, O.xc, h1, h2, (fun _ r => r), ET.kinds i 12 C _ hC rfl, _, rfl, a, C, d, fs, _, _, _, rfl, O.xc, h1, h2, (fun _ r => r), ET.kinds i 13 C _ hC rfl, _, rfl, a, C, d, fs, _, _, _, rfl, O.xc, h1, h2, (fun _ r => r), ET.kinds i 14 C _ hC rfl, _, rfl, a, C, d, fs, _, _, _, rfl, O.xc, h1, h2, (fun _ r => r), ET.kinds i 15 C _ hC rfl, slr rfl, fun M4 m4 => ?_⟩
  have f1 := Same.new m4 (.lst [V.bl (decide (12 = i)), V.bl (decide (13 = i)), V.bl (decide (14 = i)), V.bl (decide (15 = i))])
  refine ⟨N3, M4, _, _, rfl, rfl, f1 _ _ g, upd_same, slr rfl, fun N4 n4 => ?_⟩
  have f2 := f1.trans (Same.new n4 (.lst [V.bl (decide (0 = i)), V.bl (decide (1 = i)), V.bl (decide (2 = i)), V.bl (decide (3 = i)), V.bl (decide (4 = i)), V.bl (decide (5 = i)), V.bl (decide (6 = i)), V.bl (decide (7 = i)), V.bl (decide (8 = i)), V.bl (decide (9 = i)), V.bl (decide (10 = i)), V.bl (decide (11 = i)), V.bl (decide (12 = i)), V.bl (decide (13 = i)), V.bl (decide (14 = i)), V.bl (decide (15 = i))]))
  have g : upd (upd H3 M4 (.lst [V.bl (decide (12 = i)), V.bl (decide (13 = i)), V.bl (decide (14 = i)), V.bl (decide (15 = i))])) N4 (.lst ([V.bl (decide (0 = i)), V.bl (decide (1 = i)), V.bl (decide (2 = i)), V.bl (decide (3 = i)), V.bl (decide (4 = i)), V.bl (decide (5 = i)), V.bl (decide (6 = i)), V.bl (decide (7 = i)), V.bl (decide (8 = i)), V.bl (decide (9 = i)), V.bl (decide (10 = i)), V.bl (decide (11 = i))] ++ [V.bl (decide (12 = i)), V.bl (decide (13 = i)), V.bl (decide (14 = i)), V.bl (decide (15 = i))])) N4 = some (.lst [V.bl (decide (0 = i)), V.bl (decide (1 = i)), V.bl (decide (2 = i)), V.bl (decide (3 = i)), V.bl (decide (4 = i)), V.bl (decide (5 = i)), V.bl (decide (6 = i)), V.bl (decide (7 = i)), V.bl (decide (8 = i)), V.bl (decide (9 = i)), V.bl (decide (10 = i)), V.bl (decide (11 = i)), V.bl (decide (12 = i)), V.bl (decide (13 = i)), V.bl (decide (14 = i)), V.bl (decide (15 = i))]) := upd_same
  have f2 : Same H3 (upd (upd H3 M4 (.lst [V.bl (decide (12 = i)), V.bl (decide (13 = i)), V.bl (decide (14 = i)), V.bl (decide (15 = i))])) N4 (.lst ([V.bl (decide (0 = i)), V.bl (decide (1 = i)), V.bl (decide (2 = i)), V.bl (decide (3 = i)), V.bl (decide (4 = i)), V.bl (decide (5 = i)), V.bl (decide (6 = i)), V.bl (decide (7 = i)), V.bl (decide (8 = i)), V.bl (decide (9 = i)), V.bl (decide (10 = i)), V.bl (decide (11 = i))] ++ [V.bl (decide (12 = i)), V.bl (decide (13 = i)), V.bl (decide (14 = i)), V.bl (decide (15 = i))]))) := f2
  generalize upd (upd H3 M4 (.lst [V.bl (decide (12 = i)), V.bl (decide (13 = i)), V.bl (decide (14 = i)), V.bl (decide (15 = i))])) N4 (.lst ([V.bl (decide (0 = i)), V.bl (decide (1 = i)), V.bl (decide (2 = i)), V.bl (decide (3 = i)), V.bl (decide (4 = i)), V.bl (decide (5 = i)), V.bl (decide (6 = i)), V.bl (decide (7 = i)), V.bl (decide (8 = i)), V.bl (decide (9 = i)), V.bl (decide (10 = i)), V.bl (decide (11 = i))] ++ [V.bl (decide (12 = i)), V.bl (decide (13 = i)), V.bl (decide (14 = i)), V.bl (decide (15 = i))])) = H4 at f2 g
  have h1 := f2 _ _ h1
  have h2 := f2 _ _ h2
  have e := e.trans f2
  clear f1 f2
  refine ⟨_, rfl, _, rfl, a, C, d, fs, _, _, _, rfl, O.xc, h1, h2, (fun _ r => r), ET.kinds i 16 C _ hC rfl, _, rfl, a, C, d, fs, _, _, _, rfl, O.xc, h1, h2, (fun _ r => r), ET.kinds i 17 C _ hC rfl, _, rfl, a, C, d, fs, _, _, _, rfl, O.xc, h1, h2, (fun _ r => r), ET.kinds i 18 C _ hC rfl, slr rfl, fun M5 m5 => ?_⟩
  have f1 := Same.new m5 (.lst [V.bl (decide (16 = i)), V.bl (decide (17 = i)), V.bl (decide (18 = i))])
  refine ⟨N4, M5, _, _, rfl, rfl, f1 _ _ g, upd_same, slr rfl, fun N5 n5 => ?_⟩
  have f2 := f1.trans (Same.new n5 (.lst [V.bl (decide (0 = i)), V.bl (decide (1 = i)), V.bl (decide (2 = i)), V.bl (decide (3 = i)), V.bl (decide (4 = i)), V.bl (decide (5 = i)), V.bl (decide (6 = i)), V.bl (decide (7 = i)), V.bl (decide (8 = i)), V.bl (decide (9 = i)), V.bl (decide (10 = i)), V.bl (decide (11 = i)), V.bl (decide (12 = i)), V.bl (decide (13 = i)), V.bl (decide (14 = i)), V.bl (decide (15 = i)), V.bl (decide (16 = i)), V.bl (decide (17 = i)), V.bl (decide (18 = i))]))
  have g : upd (upd H4 M5 (.lst [V.bl (decide (16 = i)), V.bl (decide (17 = i)), V.bl (decide (18 = i))])) N5 (.lst ([V.bl (decide (0 = i)), V.bl (decide (1 = i)), V.bl (decide (2 = i)), V.bl (decide (3 = i)), V.bl (decide (4 = i)), V.bl (decide (5 = i)), V.bl (decide (6 = i)), V.bl (decide (7 = i)), V.bl (decide (8 = i)), V.bl (decide (9 = i)), V.bl (decide (10 = i)), V.bl (decide (11 = i)), V.bl (decide (12 = i)), V.bl (decide (13 = i)), V.bl (decide (14 = i)), V.bl (decide (15 = i))] ++ [V.bl (decide (16 = i)), V.bl (decide (17 = i)), V.bl (decide (18 = i))])) N5 = some (.lst [V.bl (decide (0 = i)), V.bl (decide (1 = i)), V.bl (decide (2 = i)), V.bl (decide (3 = i)), V.bl (decide (4 = i)), V.bl (decide (5 = i)), V.bl (decide (6 = i)), V.bl (decide (7 = i)), V.bl (decide (8 = i)), V.bl (decide (9 = i)), V.bl (decide (10 = i)), V.bl (decide (11 = i)), V.bl (decide (12 = i)), V.bl (decide (13 = i)), V.bl (decide (14 = i)), V.bl (decide (15 = i)), V.bl (decide (16 = i)), V.bl (decide (17 = i)), V.bl (decide (18 = i))]) := upd_same
  have f2 : Same H4 (upd (upd H4 M5 (.lst [V.bl (decide (16 = i)), V.bl (decide (17 = i)), V.bl (decide (18 = i))])) N5 (.lst ([V.bl (decide (0 = i)), V.bl (decide (1 = i)), V.bl (decide (2 = i)), V.bl (decide (3 = i)), V.bl (decide (4 = i)), V.bl (decide (5 = i)), V.bl (decide (6 = i)), V.bl (decide (7 = i)), V.bl (decide (8 = i)), V.bl (decide (9 = i)), V.bl (decide (10 = i)), V.bl (decide (11 = i)), V.bl (decide (12 = i)), V.bl (decide (13 = i)), V.bl (decide (14 = i)), V.bl (decide (15 = i))] ++ [V.bl (decide (16 = i)), V.bl (decide (17 = i)), V.bl (decide (18 = i))]))) := f2
  generalize upd (upd H4 M5 (.lst [V.bl (decide (16 = i)), V.bl (decide (17 = i)), V.bl (decide (18 = i))])) N5 (.lst ([V.bl (decide (0 = i)), V.bl (decide (1 = i)), V.bl (decide (2 = i)), V.bl (decide (3 = i)), V.bl (decide (4 = i)), V.bl (decide (5 = i)), V.bl (decide (6 = i)), V.bl (decide (7 = i)), V.bl (decide (8 = i)), V.bl (decide (9 = i)), V.bl (decide (10 = i)), V.bl (decide (11 = i)), V.bl (decide (12 = i)), V.bl (decide (13 = i)), V.bl (decide (14 = i)), V.bl (decide (15 = i))] ++ [V.bl (decide (16 = i)), V.bl (decide (17 = i)), V.bl (decide (18 = i))])) = H5 at f2 g
  have h1 := f2 _ _ h1
  have h2 := f2 _ _ h2
  have e := e.trans f2
  clear f1 f2
  refine ⟨_, rfl, _, rfl, a, C, d, fs, _, _, _, rfl, O.xc, h1, h2, (fun _ r => r), ET.kinds i 19 C _ hC rfl, slr rfl, fun M6 m6 => ?_⟩
  have f1 := Same.new m6 (.lst [V.bl (decide (19 = i))])
  refine ⟨N5, M6, _, _, rfl, rfl, f1 _ _ g, upd_same, slr rfl, fun N6 n6 => ?_⟩
  exact q N6 _ (e.trans (f1.trans (Same.new n6 _))) upd_same
end

-- CUT4
/-! ## The law -/
theorem sameOf {H H' : Hp} {a : Addr} {o : HO} (n : H a = none) (k : ∀ b u, b ≠ a → upd H a o b = some u → H' b = some u) : Same H H' := fun b u hb => k b u (ne_of_none hb n) (by rw [upd_ne (ne_of_none hb n)]; exact hb)
/-- a list of the errors, from the n-th of the table on -/
def Rows (B : AdE) (k : Int) (t : Str) (H : Hp) : Nat → List V → Prop
  | _, [] => True
  | n, x :: r => (∃ a C, x = .ref a ∧ B.cs[n]? = some C ∧ Made H a C (fsOf k t n)) ∧ Rows B k t H (n + 1) r
theorem Rows.mono {B : AdE} {k : Int} {t : Str} {H H' : Hp} (e : Same H H') : ∀ {n : Nat} {xs : List V}, Rows B k t H n xs → Rows B k t H' n xs
  | _, [], _ => True.intro
  | _, _ :: _, ⟨⟨a, C, h1, h2, h3⟩, r⟩ => ⟨⟨a, C, h1, h2, h3.mono e⟩, r.mono e⟩
theorem Rows.app {B : AdE} {k : Int} {t : Str} {H : Hp} {ys : List V} : ∀ {n : Nat} {xs : List V}, Rows B k t H n xs → Rows B k t H (n + xs.length) ys → Rows B k t H n (xs ++ ys)
  | _, [], _, h => h
  | n, _ :: xs, ⟨h1, r⟩, h => ⟨h1, r.app (by rw [List.length_cons, show n + (xs.length + 1) = n + 1 + xs.length by omega] at h; exact h)⟩
theorem Rows.get {B : AdE} {k : Int} {t : Str} {H : Hp} : ∀ {n : Nat} {xs : List V} {i : Nat}, Rows B k t H n xs → i < xs.length → ∃ a C, xs[i]? = some (.ref a) ∧ B.cs[n + i]? = some C ∧ Made H a C (fsOf k t (n + i))
  | n, _ :: _, 0, ⟨⟨a, C, rfl, h2, h3⟩, _⟩, _ => ⟨a, C, rfl, h2, h3⟩
  | n, _ :: xs, i + 1, ⟨_, r⟩, h => by
    obtain ⟨a, C, e1, e2, e3⟩ := r.get (i := i) (by simpa using h)
    rw [show n + 1 + i = n + (i + 1) by omega] at e2 e3
    exact ⟨a, C, by simpa using e1, e2, e3⟩
theorem words_split : Txt.split (Txt.join (" " : Str) wordsL) (" " : Str) = wordsL := TL.split_join (s := 32) (S := []) (by decide +kernel) (by decide +kernel) (by decide +kernel) (by decide +kernel)
def wordsT : Str := ("invalidfraction invalidstatement toolarge unknownplayer duplicatepiece invalidweights invalidworths" : Str) ++ (" invalidanswer brokenrule nothingexpected nothingleft parseerror invalidname inuse" : Str) ++ (" cycle unfit" : Str) ++ (" invalidcommand invaliddocument unknownpiece unknownname" : Str)
theorem words_T : Txt.split wordsT (" " : Str) = wordsL := by
  rw [show wordsT = Txt.join (" " : Str) wordsL by decide +kernel]
  exact words_split
theorem word_at (i : Nat) (h : i < 20) : (wordsL.map V.str)[i]? = some (.str (word i)) := by
  have e : i < wordsL.length := h
  unfold word
  rw [List.getElem?_map, List.getD_eq_getElem?_getD, List.getElem?_eq_getElem e]
  rfl
def dpB : List Bool → List PyData := fun bs => bs.map PyData.bool
theorem dp_bs {K : PySem.W.Frag} {H : Hp} : ∀ bs : List Bool, DpAll K H (bs.map V.bl) (bs.map PyData.bool)
  | [] => .nil
  | b :: r => .cons (.bl b) (dp_bs r)
theorem can_bs : ∀ bs : List Bool, PyData.canLayAll0 (bs.map PyData.bool) = true
  | [] => rfl
  | b :: r => by
    show (PyData.canLay0 (.bool b) && PyData.canLayAll0 (r.map PyData.bool)) = true
    rw [can_bs r]
    rfl
theorem dep_bs : ∀ bs : List Bool, PyData.depthAll (bs.map PyData.bool) ≤ 1
  | [] => Nat.zero_le _
  | b :: r => by
    show max (PyData.depth (.bool b)) (PyData.depthAll (r.map PyData.bool)) ≤ 1
    exact Nat.max_le.mpr ⟨Nat.zero_le 1, dep_bs r⟩
theorem shp_bs (bs : List Bool) : SeqAt.shaped (.list (bs.map PyData.bool)) = true := by
  unfold SeqAt.shaped
  have h1 : PyData.canLay0 (.list (bs.map PyData.bool)) = true := can_bs bs
  have h2 : PyData.depth (.list (bs.map PyData.bool)) ≤ 64 := by
    show PyData.depthAll (bs.map PyData.bool) + 1 ≤ 64
    have := dep_bs bs
    omega
  rw [h1, decide_eq_true h2]
  rfl
theorem eqv_bs (bs : List Bool) : PyData.eqv (.list (bs.map PyData.bool)) (.list (bs.map PyData.bool)) = true := SeqAt.eqv_refl _ (can_bs bs)
def kindB (i : Nat) : List Bool := (List.range 20).map fun j => decide (j = i)
theorem kinds_bs (i : Nat) : kindsL i = (kindB i).map V.bl := by
  unfold kindsL kindB
  rw [List.map_map]
  rfl
theorem bases_lt {i : Nat} (h : i < 18) : basesL i = [.bl true, .bl true, .bl false, .bl false] := by
  unfold basesL
  rw [decide_eq_true h]
  rfl
theorem bases_ge {i : Nat} (h : ¬ i < 18) : basesL i = [.bl false, .bl false, .bl true, .bl true] := by
  unfold basesL
  rw [decide_eq_false h]
  rfl
theorem eqBb {K : PySem.W.Frag} {H : Hp} {n : Nat} (b : Bool) : EqD K H n (.bl b) (.bl b) := EqD.flat (x := .bl b) True.intro
theorem eqSt {K : PySem.W.Frag} {H : Hp} {n : Nat} (s : Str) : EqD K H n (.str s) (.str s) := EqD.flat (x := .str s) True.intro
theorem eqF {K : PySem.W.Frag} {H : Hp} {n : Nat} (k : Int) (t : Str) (i : Nat) : EqD K H n (fldV k t i) (fldV k t i) := by
  unfold fldV
  split
  · exact EqD.flat (x := .non) True.intro
  · exact EqD.flat (x := .int k) True.intro
  · exact EqD.flat (x := .str t) True.intro
theorem eqLL {K : PySem.W.Frag} {H : Hp} {a b : Addr} {xs ys : List V} {n : Nat} (h : H a = some (.lst xs)) (g : H b = some (.lst ys)) (hp : Paired (EqD K H n) xs ys) (hl : xs.length ≤ 100000) : EqD K H (n + 1) (.ref a) (.ref b) :=
  .inr (.inl ⟨a, b, xs, ys, rfl, rfl, h, g, hp, hl⟩)
def knL : List Nat := [0, 1, 1, 1, 2, 0, 0, 0, 1, 0, 0, 1, 2, 2, 2, 2, 1, 1, 2, 2]
theorem fldV_kn (k : Int) (t : Str) (i : Nat) : fldV k t i = match knL.getD i 0 with | 0 => .non | 1 => .int k | _ => .str t := rfl
abbrev noneT : List V := [.int 0, .int 5, .int 6, .int 7, .int 9, .int 10]
abbrev nameT : List V := [.int 4, .int 12, .int 13, .int 14, .int 15, .int 18, .int 19]
theorem d_non0 : ∀ i < 20, inV (.int (0 + ((i : Nat) : Int))) noneT = true → knL.getD i 0 = 0 := by decide +kernel
theorem d_txt0 : ∀ i < 20, inV (.int (0 + ((i : Nat) : Int))) noneT = false → inV (.int (0 + ((i : Nat) : Int))) nameT = true → knL.getD i 0 = 2 := by decide +kernel
theorem d_int0 : ∀ i < 20, inV (.int (0 + ((i : Nat) : Int))) noneT = false → inV (.int (0 + ((i : Nat) : Int))) nameT = false → knL.getD i 0 = 1 := by decide +kernel
theorem d_non {k : Int} {t : Str} (i : Nat) (h : i < 20) (c : inV (.int (0 + ((i : Nat) : Int))) noneT = true) : fldV k t i = .non := by rw [fldV_kn, d_non0 i h c]; rfl
theorem d_txt {k : Int} {t : Str} (i : Nat) (h : i < 20) (c : inV (.int (0 + ((i : Nat) : Int))) noneT = false) (d : inV (.int (0 + ((i : Nat) : Int))) nameT = true) : fldV k t i = .str t := by rw [fldV_kn, d_txt0 i h c d]; rfl
theorem d_int {k : Int} {t : Str} (i : Nat) (h : i < 20) (c : inV (.int (0 + ((i : Nat) : Int))) noneT = false) (d : inV (.int (0 + ((i : Nat) : Int))) nameT = false) : fldV k t i = .int k := by rw [fldV_kn, d_int0 i h c d]; rfl
def spLaw (K : PySem.W.Frag) : Sp := fun vs H Q _ => ∃ (a : Addr) (ns : List Int), vs = [.ref a] ∧ SqL K H a (ns.map V.int) ∧ ns.length ≤ 63 ∧ ∀ H', Q (.bl true) H'
section
variable {P : Program} {w : World} {K : PySem.W.Frag} {mg : Str → Option Value} {base : Heap} {A : Ad} {B : AdE}
set_option maxHeartbeats 4000000 in
theorem ok_law (T : Txt K mg A) (ET : ExE K mg B) : FnOk P w K mg base CX0 60 A.f_law A.fd_law ["_law_script"] (spLaw K) := by
  refine T.d_law.F.ok sc_law (fun vs H Q E h => ?_) (fun cdv ar outer s H vs Q E hr h => ?_)
  · obtain ⟨a, ns, rfl, _⟩ := h
    rfl
  obtain ⟨a, ns, rfl, hS, h63, q⟩ := h
  refine ⟨_, (pss_cons (ps_set (i := 1) sc_law.nd rfl (Or.inl rfl) (pe_call (ok_bag T) (hr.mono (by decide)) rfl T.d_bag.m T.d_bag.F.kp T.d_bag.b .nil pass0 (pa_cons (pv 0) pa_nil)))
    (pss_cons (ps_par (i := 2) (j := 3) (by rfl) sc_law.nd rfl rfl (by decide) rfl rfl (pa_cons (pe_op op_sub (pe_call (ok_pull T) (hr.mono (by decide)) rfl T.d_pull.m T.d_pull.F.kp T.d_pull.b .nil pass0 (pa_cons (pv 1) (pa_cons (pe_op op_pow pe_int pe_int) pa_nil))) pe_int) (pa_cons (pe_call (ok_of T) (hr.mono (by decide)) rfl T.d_of.m T.d_of.F.kp T.d_of.b .nil pass0 (pa_cons (pv 1) (pa_cons (pe_lst (pa_cons pe_str (pa_cons pe_str (pa_cons pe_str (pa_cons pe_str pa_nil))))) pa_nil))) pa_nil)) (by rfl))
    (pss_cons (ps_set (i := 4) sc_law.nd rfl (Or.inl rfl) (pe_lst (pa_cons (EXV.pe_newE0 EXV.base_ve ET.d_InvalidFraction.T ET.d_InvalidFraction.iC ET.d_InvalidFraction.tC (ok_init_InvalidFraction ET) (hr.mono (by decide)) ET.d_InvalidFraction.b pass0 (by rfl) ET.d_InvalidFraction.g) (pa_cons (EXV.pe_newE EXV.base_ve ET.d_InvalidStatement.T ET.d_InvalidStatement.iC ET.d_InvalidStatement.tC (ok_init_InvalidStatement ET) (hr.mono (by decide)) ET.d_InvalidStatement.b .nil pass0 (by rfl) ET.d_InvalidStatement.g (pa_cons (pv 2) pa_nil)) (pa_cons (EXV.pe_newE EXV.base_ve ET.d_TooLarge.T ET.d_TooLarge.iC ET.d_TooLarge.tC (ok_init_TooLarge ET) (hr.mono (by decide)) ET.d_TooLarge.b .nil pass0 (by rfl) ET.d_TooLarge.g (pa_cons (pv 2) pa_nil)) (pa_cons (EXV.pe_newE EXV.base_ve ET.d_UnknownPlayer.T ET.d_UnknownPlayer.iC ET.d_UnknownPlayer.tC (ok_init_UnknownPlayer ET) (hr.mono (by decide)) ET.d_UnknownPlayer.b .nil pass0 (by rfl) ET.d_UnknownPlayer.g (pa_cons (pv 2) pa_nil)) (pa_cons (EXV.pe_newE EXV.base_ve ET.d_DuplicatePiece.T ET.d_DuplicatePiece.iC ET.d_DuplicatePiece.tC (ok_init_DuplicatePiece ET) (hr.mono (by decide)) ET.d_DuplicatePiece.b .nil pass0 (by rfl) ET.d_DuplicatePiece.g (pa_cons (pv 3) pa_nil)) pa_nil)))))))
    (pss_cons (ps_set (i := 4) sc_law.nd rfl (Or.inl rfl) (pe_op op_cat (pv 4) (pe_lst (pa_cons (EXV.pe_newE0 EXV.base_ve ET.d_InvalidWeights.T ET.d_InvalidWeights.iC ET.d_InvalidWeights.tC (ok_init_InvalidWeights ET) (hr.mono (by decide)) ET.d_InvalidWeights.b pass0 (by rfl) ET.d_InvalidWeights.g) (pa_cons (EXV.pe_newE0 EXV.base_ve ET.d_InvalidWorths.T ET.d_InvalidWorths.iC ET.d_InvalidWorths.tC (ok_init_InvalidWorths ET) (hr.mono (by decide)) ET.d_InvalidWorths.b pass0 (by rfl) ET.d_InvalidWorths.g) (pa_cons (EXV.pe_newE0 EXV.base_ve ET.d_InvalidAnswer.T ET.d_InvalidAnswer.iC ET.d_InvalidAnswer.tC (ok_init_InvalidAnswer ET) (hr.mono (by decide)) ET.d_InvalidAnswer.b pass0 (by rfl) ET.d_InvalidAnswer.g) (pa_cons (EXV.pe_newE EXV.base_ve ET.d_BrokenRule.T ET.d_BrokenRule.iC ET.d_BrokenRule.tC (ok_init_BrokenRule ET) (hr.mono (by decide)) ET.d_BrokenRule.b .nil pass0 (by rfl) ET.d_BrokenRule.g (pa_cons (pv 2) pa_nil)) (pa_cons (EXV.pe_newE0 EXV.base_ve ET.d_NothingExpected.T ET.d_NothingExpected.iC ET.d_NothingExpected.tC (ok_init_NothingExpected ET) (hr.mono (by decide)) ET.d_NothingExpected.b pass0 (by rfl) ET.d_NothingExpected.g) pa_nil))))))))
    (pss_cons (ps_set (i := 4) sc_law.nd rfl (Or.inl rfl) (pe_op op_cat (pv 4) (pe_lst (pa_cons (EXV.pe_newE0 EXV.base_ve ET.d_NothingLeft.T ET.d_NothingLeft.iC ET.d_NothingLeft.tC (ok_init_NothingLeft ET) (hr.mono (by decide)) ET.d_NothingLeft.b pass0 (by rfl) ET.d_NothingLeft.g) (pa_cons (EXV.pe_newE EXV.base_ve ET.d_ParseError.T ET.d_ParseError.iC ET.d_ParseError.tC (ok_init_ParseError ET) (hr.mono (by decide)) ET.d_ParseError.b .nil pass0 (by rfl) ET.d_ParseError.g (pa_cons (pv 2) pa_nil)) (pa_cons (EXV.pe_newE EXV.base_ve ET.d_InvalidName.T ET.d_InvalidName.iC ET.d_InvalidName.tC (ok_init_InvalidName ET) (hr.mono (by decide)) ET.d_InvalidName.b .nil pass0 (by rfl) ET.d_InvalidName.g (pa_cons (pv 3) pa_nil)) (pa_cons (EXV.pe_newE EXV.base_ve ET.d_InUse.T ET.d_InUse.iC ET.d_InUse.tC (ok_init_InUse ET) (hr.mono (by decide)) ET.d_InUse.b .nil pass0 (by rfl) ET.d_InUse.g (pa_cons (pv 3) pa_nil)) (pa_cons (EXV.pe_newE EXV.base_ve ET.d_Cycle.T ET.d_Cycle.iC ET.d_Cycle.tC (ok_init_Cycle ET) (hr.mono (by decide)) ET.d_Cycle.b .nil pass0 (by rfl) ET.d_Cycle.g (pa_cons (pv 3) pa_nil)) (pa_cons (EXV.pe_newE EXV.base_ve ET.d_Unfit.T ET.d_Unfit.iC ET.d_Unfit.tC (ok_init_Unfit ET) (hr.mono (by decide)) ET.d_Unfit.b .nil pass0 (by rfl) ET.d_Unfit.g (pa_cons (pv 3) pa_nil)) pa_nil)))))))))
    (pss_cons (ps_set (i := 4) sc_law.nd rfl (Or.inl rfl) (pe_op op_cat (pv 4) (pe_lst (pa_cons (EXV.pe_newE EXV.base_ve ET.d_InvalidCommand.T ET.d_InvalidCommand.iC ET.d_InvalidCommand.tC (ok_init_InvalidCommand ET) (hr.mono (by decide)) ET.d_InvalidCommand.b .nil pass0 (by rfl) ET.d_InvalidCommand.g (pa_cons (pv 2) pa_nil)) (pa_cons (EXV.pe_newE EXV.base_ve ET.d_InvalidDocument.T ET.d_InvalidDocument.iC ET.d_InvalidDocument.tC (ok_init_InvalidDocument ET) (hr.mono (by decide)) ET.d_InvalidDocument.b .nil pass0 (by rfl) ET.d_InvalidDocument.g (pa_cons (pv 2) pa_nil)) (pa_cons (EXV.pe_newE EXV.base_le ET.d_UnknownPiece.T ET.d_UnknownPiece.iC ET.d_UnknownPiece.tC (ok_init_UnknownPiece ET) (hr.mono (by decide)) ET.d_UnknownPiece.b .nil pass0 (by rfl) ET.d_UnknownPiece.g (pa_cons (pv 3) pa_nil)) (pa_cons (EXV.pe_newE EXV.base_le ET.d_UnknownName.T ET.d_UnknownName.iC ET.d_UnknownName.tC (ok_init_UnknownName ET) (hr.mono (by decide)) ET.d_UnknownName.b .nil pass0 (by rfl) ET.d_UnknownName.g (pa_cons (pv 3) pa_nil)) pa_nil)))))))
    (pss_cons (ps_set (i := 5) sc_law.nd rfl (Or.inl rfl) pe_str)
    (pss_cons (ps_set (i := 5) sc_law.nd rfl (Or.inl rfl) (pe_op op_add_str (pv 5) pe_str))
    (pss_cons (ps_set (i := 5) sc_law.nd rfl (Or.inl rfl) (pe_op op_add_str (pv 5) pe_str))
    (pss_cons (ps_set (i := 5) sc_law.nd rfl (Or.inl rfl) (pe_split (pe_op op_add_str (pv 5) pe_str) pe_str))
    (pss_cons (ps_for PassesOwn.never rfl (pi_range1 rfl T.range (pa_cons pe_int pa_nil)) (pg_name (i := 6) sc_law.nd rfl (Or.inr rfl)) (pss_cons (ps_set (i := 7) sc_law.nd rfl (Or.inl rfl) (pe_ifExp (pt_cmpR op_lt (pv 6) pe_int (nomark _)) (pe_lst (pa_cons pe_bl (pa_cons pe_bl (pa_cons pe_bl (pa_cons pe_bl pa_nil))))) (pe_lst (pa_cons pe_bl (pa_cons pe_bl (pa_cons pe_bl (pa_cons pe_bl pa_nil)))))))
    (pss_cons (ps_if (pt_not (pt_val (pe_call (ok_same T) (hr.mono (by decide)) rfl T.d_same.m T.d_same.F.kp T.d_same.b .nil pass0 (pa_cons (pe_lst (pa_cons (EXV.pe_fldE (pe_ix (r := rIxL K) ix_list (pv 4) (pv 6) (fun _ _ => rfl))) (pa_cons (pe_call (ok_bases T ET) (hr.mono (by decide)) rfl T.d_bases.m T.d_bases.F.kp T.d_bases.b .nil pass0 (pa_cons (pe_ix (r := rIxL K) ix_list (pv 4) (pv 6) (fun _ _ => rfl)) pa_nil)) pa_nil))) (pa_cons (pe_lst (pa_cons (pe_ix (r := rIxL K) ix_list (pv 5) (pv 6) (fun _ _ => rfl)) (pa_cons (pv 7) pa_nil))) pa_nil))))) (pss_one (ps_ret pe_bl)) pss_nil)
    (pss_cons (ps_if (pt_cmpR (r := rNeD K) (op_neD hr.units) (pe_call (ok_kinds T ET) (hr.mono (by decide)) rfl T.d_kinds.m T.d_kinds.F.kp T.d_kinds.b .nil pass0 (pa_cons (pe_ix (r := rIxL K) ix_list (pv 4) (pv 6) (fun _ _ => rfl)) pa_nil)) (pe_lc (own := [("_law_j", 9)]) (g := gName 9) (tt := tYes) rfl sc_law.nd (pi_range1 rfl T.range (pa_cons pe_int pa_nil)) (blkOk_by (own := [("_law_j", 9)]) (N := ["_law_script", "_law_bag_here", "_law_k", "_law_text", "_law_some", "_law_words", "_law_at", "_law_bases_here", "_law_due", "_law_j"]) (sc := defScope s_law) (by decide +kernel)) (fun _ _ _ _ _ => (pg_name (i := 9) sc_law.nd rfl (Or.inl rfl))) (fun _ _ _ _ _ => pts_nil) (fun _ _ _ _ _ => (pe_cmpR op_eq (pv 9) (pv 6) (nomark _)))) (nomark _)) (pss_one (ps_ret pe_bl)) pss_nil)
    (pss_cons (ps_set (i := 8) sc_law.nd rfl (Or.inl rfl) (pe_ifExp (pt_cmpR (r := rIn K false) op_in_seq (pv 6) (pe_tup (pa_cons pe_int (pa_cons pe_int (pa_cons pe_int (pa_cons pe_int (pa_cons pe_int (pa_cons pe_int pa_nil))))))) (by with_unfolding_all rfl)) pe_non (pe_ifExp (pt_cmpR (r := rIn K false) op_in_seq (pv 6) (pe_tup (pa_cons pe_int (pa_cons pe_int (pa_cons pe_int (pa_cons pe_int (pa_cons pe_int (pa_cons pe_int (pa_cons pe_int pa_nil)))))))) (by with_unfolding_all rfl)) (pv 3) (pv 2))))
    (pss_one (ps_if (pt_not (pt_val (pe_call (ok_same T) (hr.mono (by decide)) rfl T.d_same.m T.d_same.F.kp T.d_same.b .nil pass0 (pa_cons (pe_call (ok_field T ET) (hr.mono (by decide)) rfl T.d_field.m T.d_field.F.kp T.d_field.b .nil pass0 (pa_cons (pe_ix (r := rIxL K) ix_list (pv 4) (pv 6) (fun _ _ => rfl)) pa_nil)) (pa_cons (pv 8) pa_nil))))) (pss_one (ps_ret pe_bl)) pss_nil)))))))
    (pss_one (ps_ret pe_bl))))))))))))), ?_⟩
  refine ⟨_, rfl, a, ns, rfl, hS, h63, fun b l H1 e1 nb nl hB => ?_⟩
  refine ⟨_, rfl, _, _, rfl, rfl, ⟨by decide, by decide, by decide⟩, b, l, _, rfl, hB, by decide, by decide, fun r H2 r0 r1 ap2 hB2 => ?_⟩
  refine ⟨_, _, rfl, rfl, _, rfl, slr rfl, fun t0 nt0 => ?_⟩
  refine ⟨b, l, t0, _, rfl, hB2.new nt0 _, SqL.of upd_same, hB2.ne nt0, by decide, by decide, fun i0 v H3 hv ap3 hB3 => ?_⟩
  obtain ⟨t, rfl, ht⟩ : ∃ t : Str, v = .str t ∧ t.length ≤ 100 := by
    match i0, hv with
    | 0, e => cases e; exact ⟨_, rfl, by decide⟩
    | 1, e => cases e; exact ⟨_, rfl, by decide⟩
    | 2, e => cases e; exact ⟨_, rfl, by decide⟩
    | 3, e => cases e; exact ⟨_, rfl, by decide⟩
    | n + 4, e => cases e
  have hk : (r - 5).natAbs < 2 ^ 60 := by
    have : (10 : Int) ^ (9 : Int).toNat = 1000000000 := by decide
    omega
  refine ⟨_, _, rfl, ?_⟩
  clear ap2 hB2 ap3 hB3 hB nb nl e1 hS hv r0 r1 nt0
  refine fun a0 n0 => ⟨a0, rfl, upd_same, fun G0 M0 k0 => ⟨rfl, ?_⟩⟩
  have s0 := sameOf n0 k0
  clear n0 k0 s0
  refine ⟨_, rfl, by show 1 ≤ 1000; decide, fun a1 n1 => ⟨a1, _, rfl, hk, upd_same, fun G1 M1 k1 => ⟨rfl, ?_⟩⟩⟩
  have s1 := sameOf n1 k1
  have M0 := M0.mono s1
  clear n1 k1 s1
  refine ⟨_, rfl, by show 1 ≤ 1000; decide, fun a2 n2 => ⟨a2, _, rfl, hk, upd_same, fun G2 M2 k2 => ⟨rfl, ?_⟩⟩⟩
  have s2 := sameOf n2 k2
  have M0 := M0.mono s2
  have M1 := M1.mono s2
  clear n2 k2 s2
  refine ⟨_, rfl, by show 1 ≤ 1000; decide, fun a3 n3 => ⟨a3, _, rfl, hk, upd_same, fun G3 M3 k3 => ⟨rfl, ?_⟩⟩⟩
  have s3 := sameOf n3 k3
  have M0 := M0.mono s3
  have M1 := M1.mono s3
  have M2 := M2.mono s3
  clear n3 k3 s3
  refine ⟨_, rfl, by show 1 ≤ 1000; decide, fun a4 n4 => ⟨a4, _, rfl, ht, upd_same, fun G4 M4 k4 => ⟨rfl, ?_⟩⟩⟩
  have s4 := sameOf n4 k4
  have M0 := M0.mono s4
  have M1 := M1.mono s4
  have M2 := M2.mono s4
  have M3 := M3.mono s4
  clear n4 k4 s4
  refine ⟨slr rfl, fun l0 nl0 => ?_⟩
  have e0 := Same.new nl0 (.lst [V.ref a0, V.ref a1, V.ref a2, V.ref a3, V.ref a4])
  have M0 := M0.mono e0
  have M1 := M1.mono e0
  have M2 := M2.mono e0
  have M3 := M3.mono e0
  have M4 := M4.mono e0
  have g0 : upd G4 l0 (.lst [V.ref a0, V.ref a1, V.ref a2, V.ref a3, V.ref a4]) l0 = _ := upd_same
  have R0 : Rows B (r - 5) t (upd G4 l0 (.lst [V.ref a0, V.ref a1, V.ref a2, V.ref a3, V.ref a4])) 0 [V.ref a0, V.ref a1, V.ref a2, V.ref a3, V.ref a4] := ⟨⟨a0, _, rfl, rfl, M0⟩, ⟨a1, _, rfl, rfl, M1⟩, ⟨a2, _, rfl, rfl, M2⟩, ⟨a3, _, rfl, rfl, M3⟩, ⟨a4, _, rfl, rfl, M4⟩, True.intro⟩
  generalize upd G4 l0 (.lst [V.ref a0, V.ref a1, V.ref a2, V.ref a3, V.ref a4]) = J0 at *
  clear M0 M1 M2 M3 M4
  obtain ⟨L, xs, hx, eL, hL, hl, hR⟩ : ∃ (L : Addr) (xs : List V), xs = [V.ref a0, V.ref a1, V.ref a2, V.ref a3, V.ref a4] ∧ L = l0 ∧ J0 L = some (.lst xs) ∧ xs.length = 5 ∧ Rows B (r - 5) t J0 0 xs := ⟨l0, _, rfl, rfl, g0, rfl, R0⟩
  rw [← eL]
  clear hx eL R0 g0
  refine ⟨_, rfl, ?_⟩
  refine fun a5 n5 => ⟨a5, rfl, upd_same, fun G5 M5 k5 => ⟨rfl, ?_⟩⟩
  have s5 := sameOf n5 k5
  have hR := hR.mono s5
  have hL := s5 _ _ hL
  clear n5 k5 s5
  refine fun a6 n6 => ⟨a6, rfl, upd_same, fun G6 M6 k6 => ⟨rfl, ?_⟩⟩
  have s6 := sameOf n6 k6
  have M5 := M5.mono s6
  have hR := hR.mono s6
  have hL := s6 _ _ hL
  clear n6 k6 s6
  refine fun a7 n7 => ⟨a7, rfl, upd_same, fun G7 M7 k7 => ⟨rfl, ?_⟩⟩
  have s7 := sameOf n7 k7
  have M5 := M5.mono s7
  have M6 := M6.mono s7
  have hR := hR.mono s7
  have hL := s7 _ _ hL
  clear n7 k7 s7
  refine ⟨_, rfl, by show 1 ≤ 1000; decide, fun a8 n8 => ⟨a8, _, rfl, hk, upd_same, fun G8 M8 k8 => ⟨rfl, ?_⟩⟩⟩
  have s8 := sameOf n8 k8
  have M5 := M5.mono s8
  have M6 := M6.mono s8
  have M7 := M7.mono s8
  have hR := hR.mono s8
  have hL := s8 _ _ hL
  clear n8 k8 s8
  refine fun a9 n9 => ⟨a9, rfl, upd_same, fun G9 M9 k9 => ⟨rfl, ?_⟩⟩
  have s9 := sameOf n9 k9
  have M5 := M5.mono s9
  have M6 := M6.mono s9
  have M7 := M7.mono s9
  have M8 := M8.mono s9
  have hR := hR.mono s9
  have hL := s9 _ _ hL
  clear n9 k9 s9
  refine ⟨slr rfl, fun l1 nl1 => ?_⟩
  have e1 := Same.new nl1 (.lst [V.ref a5, V.ref a6, V.ref a7, V.ref a8, V.ref a9])
  have M5 := M5.mono e1
  have M6 := M6.mono e1
  have M7 := M7.mono e1
  have M8 := M8.mono e1
  have M9 := M9.mono e1
  have g1 : upd G9 l1 (.lst [V.ref a5, V.ref a6, V.ref a7, V.ref a8, V.ref a9]) l1 = _ := upd_same
  have R1 : Rows B (r - 5) t (upd G9 l1 (.lst [V.ref a5, V.ref a6, V.ref a7, V.ref a8, V.ref a9])) 5 [V.ref a5, V.ref a6, V.ref a7, V.ref a8, V.ref a9] := ⟨⟨a5, _, rfl, rfl, M5⟩, ⟨a6, _, rfl, rfl, M6⟩, ⟨a7, _, rfl, rfl, M7⟩, ⟨a8, _, rfl, rfl, M8⟩, ⟨a9, _, rfl, rfl, M9⟩, True.intro⟩
  have hR := hR.mono e1
  have hL := e1 _ _ hL
  generalize upd G9 l1 (.lst [V.ref a5, V.ref a6, V.ref a7, V.ref a8, V.ref a9]) = J1 at *
  clear M5 M6 M7 M8 M9
  refine ⟨L, l1, _, _, rfl, rfl, hL, g1, by rw [hl]; exact slr rfl, fun L1 nL1 => ?_⟩
  obtain ⟨xs1, hy, hl, hR⟩ : ∃ ys : List V, xs ++ [V.ref a5, V.ref a6, V.ref a7, V.ref a8, V.ref a9] = ys ∧ ys.length = 10 ∧ Rows B (r - 5) t J1 0 ys := ⟨_, rfl, by rw [List.length_append, hl]; rfl, hR.app (ys := [V.ref a5, V.ref a6, V.ref a7, V.ref a8, V.ref a9]) (by rw [hl]; exact R1)⟩
  rw [hy]
  have f1 := Same.new nL1 (.lst xs1)
  have hR := hR.mono f1
  have hL : upd J1 L1 (.lst xs1) L1 = _ := upd_same
  generalize upd J1 L1 (.lst xs1) = Z1 at *
  clear R1 g1 f1 nl1 nL1 e1 hy
  refine ⟨_, rfl, ?_⟩
  refine fun a10 n10 => ⟨a10, rfl, upd_same, fun G10 M10 k10 => ⟨rfl, ?_⟩⟩
  have s10 := sameOf n10 k10
  have hR := hR.mono s10
  have hL := s10 _ _ hL
  clear n10 k10 s10
  refine ⟨_, rfl, by show 1 ≤ 1000; decide, fun a11 n11 => ⟨a11, _, rfl, hk, upd_same, fun G11 M11 k11 => ⟨rfl, ?_⟩⟩⟩
  have s11 := sameOf n11 k11
  have M10 := M10.mono s11
  have hR := hR.mono s11
  have hL := s11 _ _ hL
  clear n11 k11 s11
  refine ⟨_, rfl, by show 1 ≤ 1000; decide, fun a12 n12 => ⟨a12, _, rfl, ht, upd_same, fun G12 M12 k12 => ⟨rfl, ?_⟩⟩⟩
  have s12 := sameOf n12 k12
  have M10 := M10.mono s12
  have M11 := M11.mono s12
  have hR := hR.mono s12
  have hL := s12 _ _ hL
  clear n12 k12 s12
  refine ⟨_, rfl, by show 1 ≤ 1000; decide, fun a13 n13 => ⟨a13, _, rfl, ht, upd_same, fun G13 M13 k13 => ⟨rfl, ?_⟩⟩⟩
  have s13 := sameOf n13 k13
  have M10 := M10.mono s13
  have M11 := M11.mono s13
  have M12 := M12.mono s13
  have hR := hR.mono s13
  have hL := s13 _ _ hL
  clear n13 k13 s13
  refine ⟨_, rfl, by show 1 ≤ 1000; decide, fun a14 n14 => ⟨a14, _, rfl, ht, upd_same, fun G14 M14 k14 => ⟨rfl, ?_⟩⟩⟩
  have s14 := sameOf n14 k14
  have M10 := M10.mono s14
  have M11 := M11.mono s14
  have M12 := M12.mono s14
  have M13 := M13.mono s14
  have hR := hR.mono s14
  have hL := s14 _ _ hL
  clear n14 k14 s14
  refine ⟨_, rfl, by show 1 ≤ 1000; decide, fun a15 n15 => ⟨a15, _, rfl, ht, upd_same, fun G15 M15 k15 => ⟨rfl, ?_⟩⟩⟩
  have s15 := sameOf n15 k15
  have M10 := M10.mono s15
  have M11 := M11.mono s15
  have M12 := M12.mono s15
  have M13 := M13.mono s15
  have M14 := M14.mono s15
  have hR := hR.mono s15
  have hL := s15 _ _ hL
  clear n15 k15 s15
  refine ⟨slr rfl, fun l2 nl2 => ?_⟩
  have e2 := Same.new nl2 (.lst [V.ref a10, V.ref a11, V.ref a12, V.ref a13, V.ref a14, V.ref a15])
  have M10 := M10.mono e2
  have M11 := M11.mono e2
  have M12 := M12.mono e2
  have M13 := M13.mono e2
  have M14 := M14.mono e2
  have M15 := M15.mono e2
  have g2 : upd G15 l2 (.lst [V.ref a10, V.ref a11, V.ref a12, V.ref a13, V.ref a14, V.ref a15]) l2 = _ := upd_same
  have R2 : Rows B (r - 5) t (upd G15 l2 (.lst [V.ref a10, V.ref a11, V.ref a12, V.ref a13, V.ref a14, V.ref a15])) 10 [V.ref a10, V.ref a11, V.ref a12, V.ref a13, V.ref a14, V.ref a15] := ⟨⟨a10, _, rfl, rfl, M10⟩, ⟨a11, _, rfl, rfl, M11⟩, ⟨a12, _, rfl, rfl, M12⟩, ⟨a13, _, rfl, rfl, M13⟩, ⟨a14, _, rfl, rfl, M14⟩, ⟨a15, _, rfl, rfl, M15⟩, True.intro⟩
  have hR := hR.mono e2
  have hL := e2 _ _ hL
  generalize upd G15 l2 (.lst [V.ref a10, V.ref a11, V.ref a12, V.ref a13, V.ref a14, V.ref a15]) = J2 at *
  clear M10 M11 M12 M13 M14 M15
  refine ⟨L1, l2, _, _, rfl, rfl, hL, g2, by rw [hl]; exact slr rfl, fun L2 nL2 => ?_⟩
  obtain ⟨xs2, hy, hl, hR⟩ : ∃ ys : List V, xs1 ++ [V.ref a10, V.ref a11, V.ref a12, V.ref a13, V.ref a14, V.ref a15] = ys ∧ ys.length = 16 ∧ Rows B (r - 5) t J2 0 ys := ⟨_, rfl, by rw [List.length_append, hl]; rfl, hR.app (ys := [V.ref a10, V.ref a11, V.ref a12, V.ref a13, V.ref a14, V.ref a15]) (by rw [hl]; exact R2)⟩
  rw [hy]
  have f2 := Same.new nL2 (.lst xs2)
  have hR := hR.mono f2
  have hL : upd J2 L2 (.lst xs2) L2 = _ := upd_same
  generalize upd J2 L2 (.lst xs2) = Z2 at *
  clear R2 g2 f2 nl2 nL2 e2 hy
  refine ⟨_, rfl, ?_⟩
  refine ⟨_, rfl, by show 1 ≤ 1000; decide, fun a16 n16 => ⟨a16, _, rfl, hk, upd_same, fun G16 M16 k16 => ⟨rfl, ?_⟩⟩⟩
  have s16 := sameOf n16 k16
  have hR := hR.mono s16
  have hL := s16 _ _ hL
  clear n16 k16 s16
  refine ⟨_, rfl, by show 1 ≤ 1000; decide, fun a17 n17 => ⟨a17, _, rfl, hk, upd_same, fun G17 M17 k17 => ⟨rfl, ?_⟩⟩⟩
  have s17 := sameOf n17 k17
  have M16 := M16.mono s17
  have hR := hR.mono s17
  have hL := s17 _ _ hL
  clear n17 k17 s17
  refine ⟨_, rfl, by show 1 ≤ 1000; decide, fun a18 n18 => ⟨a18, _, rfl, ht, upd_same, fun G18 M18 k18 => ⟨rfl, ?_⟩⟩⟩
  have s18 := sameOf n18 k18
  have M16 := M16.mono s18
  have M17 := M17.mono s18
  have hR := hR.mono s18
  have hL := s18 _ _ hL
  clear n18 k18 s18
  refine ⟨_, rfl, by show 1 ≤ 1000; decide, fun a19 n19 => ⟨a19, _, rfl, ht, upd_same, fun G19 M19 k19 => ⟨rfl, ?_⟩⟩⟩
  have s19 := sameOf n19 k19
  have M16 := M16.mono s19
  have M17 := M17.mono s19
  have M18 := M18.mono s19
  have hR := hR.mono s19
  have hL := s19 _ _ hL
  clear n19 k19 s19
  refine ⟨slr rfl, fun l3 nl3 => ?_⟩
  have e3 := Same.new nl3 (.lst [V.ref a16, V.ref a17, V.ref a18, V.ref a19])
  have M16 := M16.mono e3
  have M17 := M17.mono e3
  have M18 := M18.mono e3
  have M19 := M19.mono e3
  have g3 : upd G19 l3 (.lst [V.ref a16, V.ref a17, V.ref a18, V.ref a19]) l3 = _ := upd_same
  have R3 : Rows B (r - 5) t (upd G19 l3 (.lst [V.ref a16, V.ref a17, V.ref a18, V.ref a19])) 16 [V.ref a16, V.ref a17, V.ref a18, V.ref a19] := ⟨⟨a16, _, rfl, rfl, M16⟩, ⟨a17, _, rfl, rfl, M17⟩, ⟨a18, _, rfl, rfl, M18⟩, ⟨a19, _, rfl, rfl, M19⟩, True.intro⟩
  have hR := hR.mono e3
  have hL := e3 _ _ hL
  generalize upd G19 l3 (.lst [V.ref a16, V.ref a17, V.ref a18, V.ref a19]) = J3 at *
  clear M16 M17 M18 M19
  refine ⟨L2, l3, _, _, rfl, rfl, hL, g3, by rw [hl]; exact slr rfl, fun L3 nL3 => ?_⟩
  obtain ⟨xs3, hy, hl, hR⟩ : ∃ ys : List V, xs2 ++ [V.ref a16, V.ref a17, V.ref a18, V.ref a19] = ys ∧ ys.length = 20 ∧ Rows B (r - 5) t J3 0 ys := ⟨_, rfl, by rw [List.length_append, hl]; rfl, hR.app (ys := [V.ref a16, V.ref a17, V.ref a18, V.ref a19]) (by rw [hl]; exact R3)⟩
  rw [hy]
  have f3 := Same.new nL3 (.lst xs3)
  have hR := hR.mono f3
  have hL : upd J3 L3 (.lst xs3) L3 = _ := upd_same
  generalize upd J3 L3 (.lst xs3) = Z3 at *
  clear R3 g3 f3 nl3 nL3 e3 hy
  -- the words
  refine ⟨_, rfl, _, _, rfl, rfl, sl_small (by decide +kernel), _, rfl, _, _, rfl, rfl, sl_small (by decide +kernel), _, rfl, _, _, rfl, rfl, sl_small (by decide +kernel), ⟨_, rfl⟩, _, _, rfl, rfl, by decide +kernel, sl_small (by decide +kernel), ?_⟩
  show rNewStrs (Txt.split wordsT (" " : Str)) _ _
  rw [words_T]
  intro W nW
  have eW := Same.new nW (.lst (wordsL.map V.str))
  have hW : upd Z3 W (.lst (wordsL.map V.str)) W = _ := upd_same
  have hR := hR.mono eW
  have hL := eW _ _ hL
  generalize upd Z3 W (.lst (wordsL.map V.str)) = X0 at *
  clear eW nW
  refine ⟨20, rfl, by decide, by decide, ?_⟩
  refine for_range (n := 20) (fun _ σ H' => Same X0 H' ∧ ∃ u0 u6 u7 u8 u9 : Option V, σ = [u0, some (.ref b), some (.int (r - 5)), some (.str t), some (.ref L3), some (.ref W), u6, u7, u8, u9]) ⟨Same.refl _, _, _, _, _, _, rfl⟩ ?_ ?_
  · rintro i σ H4 hi ⟨e4, u0, u6, u7, u8, u9, rfl⟩
    obtain ⟨a, C, hx, hC, M⟩ := hR.get (i := i) (by omega)
    rw [Nat.zero_add] at hC M
    have M := M.mono e4
    have hL := e4 _ _ hL
    have hW := e4 _ _ hW
    have O := ok1 ET i C hC
    have hw := word_at i hi
    refine seq_key (fun σ' H' => Same H4 H' ∧ ∃ bh, H' bh = some (.lst (basesL i)) ∧ σ' = [u0, some (.ref b), some (.int (r - 5)), some (.str t), some (.ref L3), some (.ref W), some (.int (0 + (i : Int))), some (.ref bh), u8, u9]) ?_ (fun kk => ?_)
    · rintro σ' H5 ⟨e5, bh, hbh, rfl⟩
      have M := M.mono e5
      have hL := e5 _ _ hL
      have hW := e5 _ _ hW
      obtain ⟨d, h1, h2⟩ := id M
      refine ⟨_, rfl, _, rfl, L3, _, _, _, rfl, rfl, SqL.of hL, at_of (j := i) (by omega) hx, a, C, d, _, _, rfl, O.xf, O.nw, h1, h2, fs_word (r - 5) t i hi, _, rfl, _, rfl, L3, _, _, _, rfl, rfl, SqL.of hL, at_of (j := i) (by omega) hx, ?_⟩
      refine ⟨a, C, i, _, rfl, hi, hC, M, fun D1 H6 e6 g6 => ⟨slr rfl, fun l1 hl1 => ?_⟩⟩
      have e7 := Same.new hl1 (.lst [V.str (word i), .ref D1])
      have g7 : upd H6 l1 (.lst [V.str (word i), .ref D1]) l1 = _ := upd_same
      generalize upd H6 l1 (.lst [V.str (word i), .ref D1]) = H7 at e7 g7
      have E7 := e6.trans e7
      refine ⟨_, rfl, _, rfl, W, _, _, _, rfl, rfl, SqL.of (E7 _ _ hW), at_of (j := i) (by omega) hw, _, rfl, slr rfl, fun l2 hl2 => ?_⟩
      have e8 := Same.new hl2 (.lst [V.str (word i), .ref bh])
      have E8 := E7.trans e8
      refine ⟨_, _, rfl, eqLL (e8 _ _ g7) upd_same (.cons (eqSt _) (.cons (eqLL ((e7.trans e8) _ _ g6) (E8 _ _ hbh) (.cons (eqBb _) (.cons (eqBb _) (.cons (eqBb _) (.cons (eqBb _) .nil)))) (by show 4 ≤ 100000; decide)) .nil)) (by show 2 ≤ 100000; decide), fun H9 e9 => ⟨_, rfl, iteF ?_⟩⟩
      have E9 := E8.trans e9
      clear e6 e7 e8 e9 g6 g7 E7 E8 hl1 hl2
      have M := M.mono E9
      have hL := E9 _ _ hL
      have E := (e4.trans e5).trans E9
      -- the classes
      dsimp only [tNext]
      refine ⟨_, rfl, _, rfl, L3, _, _, _, rfl, rfl, SqL.of hL, at_of (j := i) (by omega) hx, a, C, i, _, rfl, hi, hC, M, fun D2 H10 e10 g10 => ?_⟩
      refine ⟨20, rfl, by decide, by decide, fun D3 hD3 => ?_⟩
      refine lc_range (lo := 0) (n := 20) (fun j H' => Same H10 H' ∧ H' D3 = some (.lst (((List.range j).map fun j => decide (j = i)).map V.bl))) ⟨Same.new hD3 _, upd_same⟩ ?_ ?_
      · rintro j H11 hj ⟨e11, hd3⟩
        refine ⟨rfl, _, rfl, _, rfl, rfl, _, hd3, by rw [List.length_map, List.length_map, List.length_range]; exact sl_lt (by omega), (e11.trans (Same.refl _)).set hD3 _, ?_⟩
        rw [upd_same, List.range_succ, List.map_append, List.map_append]
        have : decide (V.int (0 + (j : Int)) = V.int (0 + (i : Int))) = decide (j = i) := decide_eq_decide.mpr ⟨fun z => by injection z with z; omega, fun z => by rw [z]⟩
        rw [this]
        rfl
      rintro H11 ⟨e11, hd3⟩
      rw [kinds_bs] at g10
      refine ⟨_, _, .lst (SqL.of (e11 _ _ g10)) (dp_bs _), .lst (SqL.of hd3) (dp_bs _), shp_bs _, shp_bs _, _, rfl, ?_⟩
      rw [show (List.range 20).map (fun j => decide (j = i)) = kindB i from rfl, eqv_bs]
      refine iteF ?_
      have E11 := e10.trans e11
      have M := M.mono E11
      have hL := E11 _ _ hL
      have E := E.trans E11
      clear e10 e11 g10 hd3 hD3 E11 h1 h2
      dsimp only [tNext]
      refine seq_key (fun σ' H' => Same H11 H' ∧ ∃ u9, σ' = [u0, some (.ref b), some (.int (r - 5)), some (.str t), some (.ref L3), some (.ref W), some (.int (0 + (i : Int))), some (.ref bh), some (fldV (r - 5) t i), u9]) ?_ (fun kk => ?_)
      · rintro σ' H12 ⟨e12, v9, rfl⟩
        have M := M.mono e12
        have hL := e12 _ _ hL
        refine ⟨_, rfl, _, rfl, L3, _, _, _, rfl, rfl, SqL.of hL, at_of (j := i) (by omega) hx, a, C, i, r - 5, t, rfl, hi, hC, M, fun H13 e13 => ?_⟩
        refine ⟨_, rfl, _, _, rfl, eqF (r - 5) t i, fun H14 e14 => ⟨_, rfl, iteF ?_⟩⟩
        exact ⟨(E.trans e12).trans (e13.trans e14), _, _, _, _, _, rfl⟩
      · refine ⟨_, rfl, slr rfl, fun p1 n1 => ⟨p1, _, rfl, .inr (SqT.of upd_same), rfl, rfl, _, rfl, ?_⟩⟩
        have f1 := Same.new n1 (.tup noneT)
        cases c1 : inV (.int (0 + (i : Int))) noneT with
        | true =>
          refine iteT (kk _ _ ⟨f1, u9, ?_⟩)
          rw [d_non i hi c1]
          rfl
        | false =>
        refine iteF ?_
        refine ⟨_, rfl, slr rfl, fun p2 n2 => ⟨p2, _, rfl, .inr (SqT.of upd_same), rfl, rfl, _, rfl, ?_⟩⟩
        have f2 := f1.trans (Same.new n2 (.tup nameT))
        cases c2 : inV (.int (0 + (i : Int))) nameT with
        | true =>
          refine iteT ⟨_, rfl, kk _ _ ⟨f2, u9, ?_⟩⟩
          rw [d_txt i hi c1 c2]
          rfl
        | false =>
          refine iteF ⟨_, rfl, kk _ _ ⟨f2, u9, ?_⟩⟩
          rw [d_int i hi c1 c2]
          rfl
    · refine ⟨_, rfl, _, _, rfl, rfl, _, rfl, ?_⟩
      refine ite2 (fun c0 => ?_) (fun c0 => ?_)
      · have c1 : (0 + (i : Int)) < 18 := of_decide_eq_true c0
        refine ⟨slr rfl, fun bh nbh => kk _ _ ⟨Same.new nbh _, bh, ?_, rfl⟩⟩
        rw [bases_lt (by omega)]
        exact upd_same
      · have c1 : ¬ (0 + (i : Int)) < 18 := fun z => c0 (decide_eq_true z)
        refine ⟨slr rfl, fun bh nbh => kk _ _ ⟨Same.new nbh _, bh, ?_, rfl⟩⟩
        rw [bases_ge (by omega)]
        exact upd_same
  · rintro σ H4 ⟨_, u0, u6, u7, u8, u9, rfl⟩
    exact q _
end

-- CUT5
/-! ## What the head shows of each class of errors -/
def errB (K : PySem.W.Frag) (C f : Addr) (fs : List Str) : Bool := xfB K C && (decide (PySem.W.findIn K (.ref C) "__setattr__" = some (some (.builtin "object.__setattr__"))) && (PySem.W.keepIn K (.ref C) && (decide (PySem.W.typeIn K (.ref f) = some (.type "function")) &&
  (decide (PySem.W.findIn K (.ref C) "__class__" = some (some (.builtin "object.__class__"))) && (decide (PySem.W.specialIn K (.builtin "object.__class__") "__get__" = some (some (.builtin "getset_descriptor.__get__"))) && (decide (PySem.W.takesIn K (.builtin "object.__class__") = some true) &&
  (decide (PySem.W.mroIn K C (.type "object") = some true) && fs.all (fun f => PySem.W.findIn K (.ref C) f == some none))))))))
def refsLE : List Value → Bool
  | .ref _ :: r => refsLE r
  | l => decide (l = EXV.leTail)
theorem line_le : ∀ {l : List Value}, refsLE l = true → EXV.Line EXV.leTail l := by
  intro l
  induction l with
  | nil => intro e; exact absurd e (by decide)
  | cons a r ih =>
    intro e
    cases a with
    | ref c => exact .own (ih e)
    | _ => exact (show _ = EXV.leTail from of_decide_eq_true e) ▸ .base
theorem ert_mk {K : PySem.W.Frag} {mg : Str → Option Value} {nw : String} {tl : List Value} {nm qn : Str} {st : Stmt} {ps : List Str} {C f : Addr} {fd : FuncData} {cn : Str} {q : Str} {N : Addr} {bs bm : List Value} {sn : List Str} {sub : List Value} {ab : Bool} {col : Option Bool} {dd : Option Addr} {k0 k1 k2 k3 k5 : Option Value}
    (g : mg nm = some (.ref C)) (l : K.lookup C = some (excClassObj cn q C N bs bm true sn sub ab col dd k0 k1 k2 k3 k5 nw)) (m : EXV.Line tl bm) (i : PySem.W.findIn K (.ref C) "__init__" = some (some (.ref f))) (F : Fun K "__init__" qn st f fd) (b : Binds K fd ps [])
    (h : errB K C f (("word" : Str) :: ps.tail) = true) : ErT K mg nw tl nm qn st ps ⟨C, f, fd⟩ := by
  obtain ⟨h1, h⟩ := Bool.and_eq_true_iff.mp h
  obtain ⟨h2, h⟩ := Bool.and_eq_true_iff.mp h
  obtain ⟨h3, h⟩ := Bool.and_eq_true_iff.mp h
  obtain ⟨h4, h⟩ := Bool.and_eq_true_iff.mp h
  obtain ⟨h5, h⟩ := Bool.and_eq_true_iff.mp h
  obtain ⟨h6, h⟩ := Bool.and_eq_true_iff.mp h
  obtain ⟨h7, h⟩ := Bool.and_eq_true_iff.mp h
  obtain ⟨h8, h9⟩ := Bool.and_eq_true_iff.mp h
  have x := xfB_ok h1
  exact ⟨g, ⟨⟨_, _, _, _, _, _, _, _, _, _, _, _, _, _, _, l, m⟩, of_decide_eq_true h2, h3⟩, i, of_decide_eq_true h4, F, b, x, ⟨x.ga, x.gg, x.exC, x.hdC, of_decide_eq_true h5, of_decide_eq_true h6, of_decide_eq_true h7, of_decide_eq_true h8⟩, h9⟩
def pairB (K : PySem.W.Frag) (j i : Nat) : Option Addr → Option Addr → Bool
  | some a, some b => decide (PySem.W.kitOne K (.ref a) (.ref b) = some (decide (j = i)))
  | _, _ => true
def kindsB (K : PySem.W.Frag) (cs : List Addr) : Bool := (List.range cs.length).all fun i => (List.range cs.length).all fun j => pairB K j i cs[i]? cs[j]?
theorem kinds_of {K : PySem.W.Frag} {cs : List Addr} (h : kindsB K cs = true) (i j : Nat) (a b : Addr) (ha : cs[i]? = some a) (hb : cs[j]? = some b) : PySem.W.kitOne K (.ref a) (.ref b) = some (decide (j = i)) := by
  have li : i < cs.length := by
    obtain ⟨z, _⟩ := List.getElem?_eq_some_iff.mp ha
    exact z
  have lj : j < cs.length := by
    obtain ⟨z, _⟩ := List.getElem?_eq_some_iff.mp hb
    exact z
  have z := List.all_eq_true.mp (List.all_eq_true.mp h i (List.mem_range.mpr li)) j (List.mem_range.mpr lj)
  rw [ha, hb] at z
  exact of_decide_eq_true z
def oneB (K : PySem.W.Frag) (c : Value) (neg : Bool) (i : Nat) : Option Addr → Bool
  | some a => decide (PySem.W.kitOne K (.ref a) c = some (xor neg (decide (i < 18))))
  | none => true
def kindB1 (K : PySem.W.Frag) (cs : List Addr) (c : Value) (neg : Bool) : Bool := (List.range cs.length).all fun i => oneB K c neg i cs[i]?
theorem kind1_of {K : PySem.W.Frag} {cs : List Addr} {c : Value} {neg : Bool} (h : kindB1 K cs c neg = true) (i : Nat) (a : Addr) (ha : cs[i]? = some a) : PySem.W.kitOne K (.ref a) c = some (xor neg (decide (i < 18))) := by
  have li : i < cs.length := by
    obtain ⟨z, _⟩ := List.getElem?_eq_some_iff.mp ha
    exact z
  have z := List.all_eq_true.mp h i (List.mem_range.mpr li)
  rw [ha] at z
  exact of_decide_eq_true z
theorem kind_of {K : PySem.W.Frag} {cs : List Addr} {c : Value} (h : kindB1 K cs c false = true) (i : Nat) (a : Addr) (ha : cs[i]? = some a) : PySem.W.kitOne K (.ref a) c = some (decide (i < 18)) := by
  rw [kind1_of h i a ha, Bool.false_xor]
theorem kindN_of {K : PySem.W.Frag} {cs : List Addr} {c : Value} (h : kindB1 K cs c true = true) (i : Nat) (a : Addr) (ha : cs[i]? = some a) : PySem.W.kitOne K (.ref a) c = some (!decide (i < 18)) := by
  rw [kind1_of h i a ha, Bool.true_xor]

theorem all_mk {l : PySem.W.OpenLaw} {w : World} {K : PySem.W.Frag} {h : Heap} {mg : Str → Option Value} {fa f1 f2 f3 f4 f5 f6 f7 f8 : Addr} (X : K.In h) (G : h.Ns mainGlobals mg) (hfa : mg "law" = some (.ref fa))
    {od1 an1 od2 an2 od3 an3 od4 an4 od5 an5 od6 an6 od7 an7 od8 an8 : Option Addr} {sl1 sl2 sl3 sl4 sl5 sl6 sl7 sl8 : Array (Option Value)} {oc1 kV1 dc1 pm1 cd1 ct1 oc2 kV2 dc2 pm2 cd2 ct2 oc3 kV3 dc3 pm3 cd3 ct3 oc4 kV4 dc4 pm4 cd4 ct4 oc5 kV5 dc5 pm5 cd5 ct5 oc6 kV6 dc6 pm6 cd6 ct6 oc7 kV7 dc7 pm7 cd7 ct7 oc8 kV8 dc8 pm8 cd8 ct8 : Value}
    (a1 : PySem.W.nsIn K mainGlobals "_law_bag" = some (some (.ref f1))) (l1 : K.lookup f1 = some ⟨oc1, od1, .func (PySem.W.fnOf "_law_bag" "_law_bag" (defArgs s_bag) (defBody s_bag) (defScope s_bag) .none kV1 dc1 pm1 an1 cd1 ct1), sl1⟩) (c1 : PySem.W.codeIn K cd1 "_law_bag" = true) (k1 : PySem.W.keepIn K (.ref f1) = true)
    (a2 : PySem.W.nsIn K mainGlobals "_law_pull" = some (some (.ref f2))) (l2 : K.lookup f2 = some ⟨oc2, od2, .func (PySem.W.fnOf "_law_pull" "_law_pull" (defArgs s_pull) (defBody s_pull) (defScope s_pull) .none kV2 dc2 pm2 an2 cd2 ct2), sl2⟩) (c2 : PySem.W.codeIn K cd2 "_law_pull" = true) (k2 : PySem.W.keepIn K (.ref f2) = true)
    (a3 : PySem.W.nsIn K mainGlobals "_law_of" = some (some (.ref f3))) (l3 : K.lookup f3 = some ⟨oc3, od3, .func (PySem.W.fnOf "_law_of" "_law_of" (defArgs s_of) (defBody s_of) (defScope s_of) .none kV3 dc3 pm3 an3 cd3 ct3), sl3⟩) (c3 : PySem.W.codeIn K cd3 "_law_of" = true) (k3 : PySem.W.keepIn K (.ref f3) = true)
    (a4 : PySem.W.nsIn K mainGlobals "_law_same" = some (some (.ref f4))) (l4 : K.lookup f4 = some ⟨oc4, od4, .func (PySem.W.fnOf "_law_same" "_law_same" (defArgs s_same) (defBody s_same) (defScope s_same) .none kV4 dc4 pm4 an4 cd4 ct4), sl4⟩) (c4 : PySem.W.codeIn K cd4 "_law_same" = true) (k4 : PySem.W.keepIn K (.ref f4) = true)
    (a5 : PySem.W.nsIn K mainGlobals "_law_field" = some (some (.ref f5))) (l5 : K.lookup f5 = some ⟨oc5, od5, .func (PySem.W.fnOf "_law_field" "_law_field" (defArgs s_field) (defBody s_field) (defScope s_field) .none kV5 dc5 pm5 an5 cd5 ct5), sl5⟩) (c5 : PySem.W.codeIn K cd5 "_law_field" = true) (k5 : PySem.W.keepIn K (.ref f5) = true)
    (a6 : PySem.W.nsIn K mainGlobals "_law_bases" = some (some (.ref f6))) (l6 : K.lookup f6 = some ⟨oc6, od6, .func (PySem.W.fnOf "_law_bases" "_law_bases" (defArgs s_bases) (defBody s_bases) (defScope s_bases) .none kV6 dc6 pm6 an6 cd6 ct6), sl6⟩) (c6 : PySem.W.codeIn K cd6 "_law_bases" = true) (k6 : PySem.W.keepIn K (.ref f6) = true)
    (a7 : PySem.W.nsIn K mainGlobals "_law_kinds" = some (some (.ref f7))) (l7 : K.lookup f7 = some ⟨oc7, od7, .func (PySem.W.fnOf "_law_kinds" "_law_kinds" (defArgs s_kinds) (defBody s_kinds) (defScope s_kinds) .none kV7 dc7 pm7 an7 cd7 ct7), sl7⟩) (c7 : PySem.W.codeIn K cd7 "_law_kinds" = true) (k7 : PySem.W.keepIn K (.ref f7) = true)
    (a8 : PySem.W.nsIn K mainGlobals "law" = some (some (.ref f8))) (l8 : K.lookup f8 = some ⟨oc8, od8, .func (PySem.W.fnOf "law" "law" (defArgs s_law) (defBody s_law) (defScope s_law) .none kV8 dc8 pm8 an8 cd8 ct8), sl8⟩) (c8 : PySem.W.codeIn K cd8 "law" = true) (k8 : PySem.W.keepIn K (.ref f8) = true)
    (z_all : PySem.W.nsIn K mainGlobals "all" = some none) (z_bool : PySem.W.nsIn K mainGlobals "bool" = some none) (z_int : PySem.W.nsIn K mainGlobals "int" = some none) (z_isinstance : PySem.W.nsIn K mainGlobals "isinstance" = some none) (z_len : PySem.W.nsIn K mainGlobals "len" = some none) (z_list : PySem.W.nsIn K mainGlobals "list" = some none) (z_range : PySem.W.nsIn K mainGlobals "range" = some none) (z_str : PySem.W.nsIn K mainGlobals "str" = some none) (z_tuple : PySem.W.nsIn K mainGlobals "tuple" = some none)
    {cG fG tG : Addr} {octG ocG kVG dcG pmG cdG ctG : Value} {odG odtG anG : Option Addr} {slG sltG : Array (Option Value)} {kdG1 kdG2 : Tok} {ntG : Nat}
    (x_gG : PySem.W.nsIn K mainGlobals "GrainError" = some (some (.ref cG))) (x_rG : PySem.W.readsIn K cG (.type "type") = true) (x_sG : PySem.W.specialIn K (.ref cG) "__getattribute__" = some (some (.builtin "type.__getattribute__"))) (x_vG : PySem.W.findCls K (.ref cG) (.type "type") "__init__" = some (.val (.ref fG)))
    (x_lG : K.lookup fG = some ⟨ocG, odG, .func (PySem.W.fnOf "__init__" "GrainError.__init__" (defArgs s_GrainError___init__) (defBody s_GrainError___init__) (defScope s_GrainError___init__) (.ref tG) kVG dcG pmG anG cdG ctG), slG⟩) (x_cG : PySem.W.codeIn K cdG "GrainError.__init__" = true) (x_kG : PySem.W.keepIn K (.ref fG) = true)
    (x_tG : K.lookup tG = some ⟨octG, odtG, .seq #[.str "grainerror" kdG1, .str "a value is wrong" kdG2] ntG, sltG⟩)
    (x_iG : PySem.W.findCls K (.type "ValueError") (.type "type") "__init__" = some (.val (.builtin "ValueError.__init__"))) (x_nG : PySem.W.nsIn K mainGlobals "ValueError" = some none)
    {cM fM tM : Addr} {octM ocM kVM dcM pmM cdM ctM : Value} {odM odtM anM : Option Addr} {slM sltM : Array (Option Value)} {kdM1 kdM2 : Tok} {ntM : Nat}
    (x_gM : PySem.W.nsIn K mainGlobals "MissingError" = some (some (.ref cM))) (x_rM : PySem.W.readsIn K cM (.type "type") = true) (x_sM : PySem.W.specialIn K (.ref cM) "__getattribute__" = some (some (.builtin "type.__getattribute__"))) (x_vM : PySem.W.findCls K (.ref cM) (.type "type") "__init__" = some (.val (.ref fM)))
    (x_lM : K.lookup fM = some ⟨ocM, odM, .func (PySem.W.fnOf "__init__" "MissingError.__init__" (defArgs s_MissingError___init__) (defBody s_MissingError___init__) (defScope s_MissingError___init__) (.ref tM) kVM dcM pmM anM cdM ctM), slM⟩) (x_cM : PySem.W.codeIn K cdM "MissingError.__init__" = true) (x_kM : PySem.W.keepIn K (.ref fM) = true)
    (x_tM : K.lookup tM = some ⟨octM, odtM, .seq #[.str "missingerror" kdM1, .str "a name is unknown" kdM2] ntM, sltM⟩)
    (x_iM : PySem.W.findCls K (.type "LookupError") (.type "type") "__init__" = some (.val (.builtin "LookupError.__init__"))) (x_nM : PySem.W.nsIn K mainGlobals "LookupError" = some none)
    {ce0 fe0 Ne0 : Addr} {nme0 qe0 : Str} {bse0 bme0 sube0 : List Value} {sne0 : List Str} {abe0 : Bool} {cole0 : Option Bool} {dde0 ode0 ane0 : Option Addr} {k0e0 k1e0 k2e0 k3e0 k5e0 : Option Value} {oce0 kVe0 dce0 pme0 cde0 cte0 : Value} {sle0 : Array (Option Value)}
    (x_ge0 : PySem.W.nsIn K mainGlobals "InvalidFraction" = some (some (.ref ce0))) (x_le0 : K.lookup ce0 = some (excClassObj nme0 qe0 ce0 Ne0 bse0 bme0 true sne0 sube0 abe0 cole0 dde0 k0e0 k1e0 k2e0 k3e0 k5e0 "ValueError.__new__")) (x_me0 : PySem.HandSPX.refsVE bme0 = true)
    (x_ie0 : PySem.W.findIn K (.ref ce0) "__init__" = some (some (.ref fe0))) (x_fe0 : K.lookup fe0 = some ⟨oce0, ode0, .func (PySem.W.fnOf "__init__" "InvalidFraction.__init__" (defArgs s_InvalidFraction___init__) (defBody s_InvalidFraction___init__) (defScope s_InvalidFraction___init__) .none kVe0 dce0 pme0 ane0 cde0 cte0), sle0⟩) (x_ce0 : PySem.W.codeIn K cde0 "InvalidFraction.__init__" = true) (x_ke0 : PySem.W.keepIn K (.ref fe0) = true)
    (x_be0 : errB K ce0 fe0 ["word"] = true)
    {ce1 fe1 Ne1 : Addr} {nme1 qe1 : Str} {bse1 bme1 sube1 : List Value} {sne1 : List Str} {abe1 : Bool} {cole1 : Option Bool} {dde1 ode1 ane1 : Option Addr} {k0e1 k1e1 k2e1 k3e1 k5e1 : Option Value} {oce1 kVe1 dce1 pme1 cde1 cte1 : Value} {sle1 : Array (Option Value)}
    (x_ge1 : PySem.W.nsIn K mainGlobals "InvalidStatement" = some (some (.ref ce1))) (x_le1 : K.lookup ce1 = some (excClassObj nme1 qe1 ce1 Ne1 bse1 bme1 true sne1 sube1 abe1 cole1 dde1 k0e1 k1e1 k2e1 k3e1 k5e1 "ValueError.__new__")) (x_me1 : PySem.HandSPX.refsVE bme1 = true)
    (x_ie1 : PySem.W.findIn K (.ref ce1) "__init__" = some (some (.ref fe1))) (x_fe1 : K.lookup fe1 = some ⟨oce1, ode1, .func (PySem.W.fnOf "__init__" "InvalidStatement.__init__" (defArgs s_InvalidStatement___init__) (defBody s_InvalidStatement___init__) (defScope s_InvalidStatement___init__) .none kVe1 dce1 pme1 ane1 cde1 cte1), sle1⟩) (x_ce1 : PySem.W.codeIn K cde1 "InvalidStatement.__init__" = true) (x_ke1 : PySem.W.keepIn K (.ref fe1) = true)
    (x_be1 : errB K ce1 fe1 ["word", "place"] = true)
    {ce2 fe2 Ne2 : Addr} {nme2 qe2 : Str} {bse2 bme2 sube2 : List Value} {sne2 : List Str} {abe2 : Bool} {cole2 : Option Bool} {dde2 ode2 ane2 : Option Addr} {k0e2 k1e2 k2e2 k3e2 k5e2 : Option Value} {oce2 kVe2 dce2 pme2 cde2 cte2 : Value} {sle2 : Array (Option Value)}
    (x_ge2 : PySem.W.nsIn K mainGlobals "TooLarge" = some (some (.ref ce2))) (x_le2 : K.lookup ce2 = some (excClassObj nme2 qe2 ce2 Ne2 bse2 bme2 true sne2 sube2 abe2 cole2 dde2 k0e2 k1e2 k2e2 k3e2 k5e2 "ValueError.__new__")) (x_me2 : PySem.HandSPX.refsVE bme2 = true)
    (x_ie2 : PySem.W.findIn K (.ref ce2) "__init__" = some (some (.ref fe2))) (x_fe2 : K.lookup fe2 = some ⟨oce2, ode2, .func (PySem.W.fnOf "__init__" "TooLarge.__init__" (defArgs s_TooLarge___init__) (defBody s_TooLarge___init__) (defScope s_TooLarge___init__) .none kVe2 dce2 pme2 ane2 cde2 cte2), sle2⟩) (x_ce2 : PySem.W.codeIn K cde2 "TooLarge.__init__" = true) (x_ke2 : PySem.W.keepIn K (.ref fe2) = true)
    (x_be2 : errB K ce2 fe2 ["word", "limit"] = true)
    {ce3 fe3 Ne3 : Addr} {nme3 qe3 : Str} {bse3 bme3 sube3 : List Value} {sne3 : List Str} {abe3 : Bool} {cole3 : Option Bool} {dde3 ode3 ane3 : Option Addr} {k0e3 k1e3 k2e3 k3e3 k5e3 : Option Value} {oce3 kVe3 dce3 pme3 cde3 cte3 : Value} {sle3 : Array (Option Value)}
    (x_ge3 : PySem.W.nsIn K mainGlobals "UnknownPlayer" = some (some (.ref ce3))) (x_le3 : K.lookup ce3 = some (excClassObj nme3 qe3 ce3 Ne3 bse3 bme3 true sne3 sube3 abe3 cole3 dde3 k0e3 k1e3 k2e3 k3e3 k5e3 "ValueError.__new__")) (x_me3 : PySem.HandSPX.refsVE bme3 = true)
    (x_ie3 : PySem.W.findIn K (.ref ce3) "__init__" = some (some (.ref fe3))) (x_fe3 : K.lookup fe3 = some ⟨oce3, ode3, .func (PySem.W.fnOf "__init__" "UnknownPlayer.__init__" (defArgs s_UnknownPlayer___init__) (defBody s_UnknownPlayer___init__) (defScope s_UnknownPlayer___init__) .none kVe3 dce3 pme3 ane3 cde3 cte3), sle3⟩) (x_ce3 : PySem.W.codeIn K cde3 "UnknownPlayer.__init__" = true) (x_ke3 : PySem.W.keepIn K (.ref fe3) = true)
    (x_be3 : errB K ce3 fe3 ["word", "player"] = true)
    {ce4 fe4 Ne4 : Addr} {nme4 qe4 : Str} {bse4 bme4 sube4 : List Value} {sne4 : List Str} {abe4 : Bool} {cole4 : Option Bool} {dde4 ode4 ane4 : Option Addr} {k0e4 k1e4 k2e4 k3e4 k5e4 : Option Value} {oce4 kVe4 dce4 pme4 cde4 cte4 : Value} {sle4 : Array (Option Value)}
    (x_ge4 : PySem.W.nsIn K mainGlobals "DuplicatePiece" = some (some (.ref ce4))) (x_le4 : K.lookup ce4 = some (excClassObj nme4 qe4 ce4 Ne4 bse4 bme4 true sne4 sube4 abe4 cole4 dde4 k0e4 k1e4 k2e4 k3e4 k5e4 "ValueError.__new__")) (x_me4 : PySem.HandSPX.refsVE bme4 = true)
    (x_ie4 : PySem.W.findIn K (.ref ce4) "__init__" = some (some (.ref fe4))) (x_fe4 : K.lookup fe4 = some ⟨oce4, ode4, .func (PySem.W.fnOf "__init__" "DuplicatePiece.__init__" (defArgs s_DuplicatePiece___init__) (defBody s_DuplicatePiece___init__) (defScope s_DuplicatePiece___init__) .none kVe4 dce4 pme4 ane4 cde4 cte4), sle4⟩) (x_ce4 : PySem.W.codeIn K cde4 "DuplicatePiece.__init__" = true) (x_ke4 : PySem.W.keepIn K (.ref fe4) = true)
    (x_be4 : errB K ce4 fe4 ["word", "name"] = true)
    {ce5 fe5 Ne5 : Addr} {nme5 qe5 : Str} {bse5 bme5 sube5 : List Value} {sne5 : List Str} {abe5 : Bool} {cole5 : Option Bool} {dde5 ode5 ane5 : Option Addr} {k0e5 k1e5 k2e5 k3e5 k5e5 : Option Value} {oce5 kVe5 dce5 pme5 cde5 cte5 : Value} {sle5 : Array (Option Value)}
    (x_ge5 : PySem.W.nsIn K mainGlobals "InvalidWeights" = some (some (.ref ce5))) (x_le5 : K.lookup ce5 = some (excClassObj nme5 qe5 ce5 Ne5 bse5 bme5 true sne5 sube5 abe5 cole5 dde5 k0e5 k1e5 k2e5 k3e5 k5e5 "ValueError.__new__")) (x_me5 : PySem.HandSPX.refsVE bme5 = true)
    (x_ie5 : PySem.W.findIn K (.ref ce5) "__init__" = some (some (.ref fe5))) (x_fe5 : K.lookup fe5 = some ⟨oce5, ode5, .func (PySem.W.fnOf "__init__" "InvalidWeights.__init__" (defArgs s_InvalidWeights___init__) (defBody s_InvalidWeights___init__) (defScope s_InvalidWeights___init__) .none kVe5 dce5 pme5 ane5 cde5 cte5), sle5⟩) (x_ce5 : PySem.W.codeIn K cde5 "InvalidWeights.__init__" = true) (x_ke5 : PySem.W.keepIn K (.ref fe5) = true)
    (x_be5 : errB K ce5 fe5 ["word"] = true)
    {ce6 fe6 Ne6 : Addr} {nme6 qe6 : Str} {bse6 bme6 sube6 : List Value} {sne6 : List Str} {abe6 : Bool} {cole6 : Option Bool} {dde6 ode6 ane6 : Option Addr} {k0e6 k1e6 k2e6 k3e6 k5e6 : Option Value} {oce6 kVe6 dce6 pme6 cde6 cte6 : Value} {sle6 : Array (Option Value)}
    (x_ge6 : PySem.W.nsIn K mainGlobals "InvalidWorths" = some (some (.ref ce6))) (x_le6 : K.lookup ce6 = some (excClassObj nme6 qe6 ce6 Ne6 bse6 bme6 true sne6 sube6 abe6 cole6 dde6 k0e6 k1e6 k2e6 k3e6 k5e6 "ValueError.__new__")) (x_me6 : PySem.HandSPX.refsVE bme6 = true)
    (x_ie6 : PySem.W.findIn K (.ref ce6) "__init__" = some (some (.ref fe6))) (x_fe6 : K.lookup fe6 = some ⟨oce6, ode6, .func (PySem.W.fnOf "__init__" "InvalidWorths.__init__" (defArgs s_InvalidWorths___init__) (defBody s_InvalidWorths___init__) (defScope s_InvalidWorths___init__) .none kVe6 dce6 pme6 ane6 cde6 cte6), sle6⟩) (x_ce6 : PySem.W.codeIn K cde6 "InvalidWorths.__init__" = true) (x_ke6 : PySem.W.keepIn K (.ref fe6) = true)
    (x_be6 : errB K ce6 fe6 ["word"] = true)
    {ce7 fe7 Ne7 : Addr} {nme7 qe7 : Str} {bse7 bme7 sube7 : List Value} {sne7 : List Str} {abe7 : Bool} {cole7 : Option Bool} {dde7 ode7 ane7 : Option Addr} {k0e7 k1e7 k2e7 k3e7 k5e7 : Option Value} {oce7 kVe7 dce7 pme7 cde7 cte7 : Value} {sle7 : Array (Option Value)}
    (x_ge7 : PySem.W.nsIn K mainGlobals "InvalidAnswer" = some (some (.ref ce7))) (x_le7 : K.lookup ce7 = some (excClassObj nme7 qe7 ce7 Ne7 bse7 bme7 true sne7 sube7 abe7 cole7 dde7 k0e7 k1e7 k2e7 k3e7 k5e7 "ValueError.__new__")) (x_me7 : PySem.HandSPX.refsVE bme7 = true)
    (x_ie7 : PySem.W.findIn K (.ref ce7) "__init__" = some (some (.ref fe7))) (x_fe7 : K.lookup fe7 = some ⟨oce7, ode7, .func (PySem.W.fnOf "__init__" "InvalidAnswer.__init__" (defArgs s_InvalidAnswer___init__) (defBody s_InvalidAnswer___init__) (defScope s_InvalidAnswer___init__) .none kVe7 dce7 pme7 ane7 cde7 cte7), sle7⟩) (x_ce7 : PySem.W.codeIn K cde7 "InvalidAnswer.__init__" = true) (x_ke7 : PySem.W.keepIn K (.ref fe7) = true)
    (x_be7 : errB K ce7 fe7 ["word"] = true)
    {ce8 fe8 Ne8 : Addr} {nme8 qe8 : Str} {bse8 bme8 sube8 : List Value} {sne8 : List Str} {abe8 : Bool} {cole8 : Option Bool} {dde8 ode8 ane8 : Option Addr} {k0e8 k1e8 k2e8 k3e8 k5e8 : Option Value} {oce8 kVe8 dce8 pme8 cde8 cte8 : Value} {sle8 : Array (Option Value)}
    (x_ge8 : PySem.W.nsIn K mainGlobals "BrokenRule" = some (some (.ref ce8))) (x_le8 : K.lookup ce8 = some (excClassObj nme8 qe8 ce8 Ne8 bse8 bme8 true sne8 sube8 abe8 cole8 dde8 k0e8 k1e8 k2e8 k3e8 k5e8 "ValueError.__new__")) (x_me8 : PySem.HandSPX.refsVE bme8 = true)
    (x_ie8 : PySem.W.findIn K (.ref ce8) "__init__" = some (some (.ref fe8))) (x_fe8 : K.lookup fe8 = some ⟨oce8, ode8, .func (PySem.W.fnOf "__init__" "BrokenRule.__init__" (defArgs s_BrokenRule___init__) (defBody s_BrokenRule___init__) (defScope s_BrokenRule___init__) .none kVe8 dce8 pme8 ane8 cde8 cte8), sle8⟩) (x_ce8 : PySem.W.codeIn K cde8 "BrokenRule.__init__" = true) (x_ke8 : PySem.W.keepIn K (.ref fe8) = true)
    (x_be8 : errB K ce8 fe8 ["word", "player"] = true)
    {ce9 fe9 Ne9 : Addr} {nme9 qe9 : Str} {bse9 bme9 sube9 : List Value} {sne9 : List Str} {abe9 : Bool} {cole9 : Option Bool} {dde9 ode9 ane9 : Option Addr} {k0e9 k1e9 k2e9 k3e9 k5e9 : Option Value} {oce9 kVe9 dce9 pme9 cde9 cte9 : Value} {sle9 : Array (Option Value)}
    (x_ge9 : PySem.W.nsIn K mainGlobals "NothingExpected" = some (some (.ref ce9))) (x_le9 : K.lookup ce9 = some (excClassObj nme9 qe9 ce9 Ne9 bse9 bme9 true sne9 sube9 abe9 cole9 dde9 k0e9 k1e9 k2e9 k3e9 k5e9 "ValueError.__new__")) (x_me9 : PySem.HandSPX.refsVE bme9 = true)
    (x_ie9 : PySem.W.findIn K (.ref ce9) "__init__" = some (some (.ref fe9))) (x_fe9 : K.lookup fe9 = some ⟨oce9, ode9, .func (PySem.W.fnOf "__init__" "NothingExpected.__init__" (defArgs s_NothingExpected___init__) (defBody s_NothingExpected___init__) (defScope s_NothingExpected___init__) .none kVe9 dce9 pme9 ane9 cde9 cte9), sle9⟩) (x_ce9 : PySem.W.codeIn K cde9 "NothingExpected.__init__" = true) (x_ke9 : PySem.W.keepIn K (.ref fe9) = true)
    (x_be9 : errB K ce9 fe9 ["word"] = true)
    {ce10 fe10 Ne10 : Addr} {nme10 qe10 : Str} {bse10 bme10 sube10 : List Value} {sne10 : List Str} {abe10 : Bool} {cole10 : Option Bool} {dde10 ode10 ane10 : Option Addr} {k0e10 k1e10 k2e10 k3e10 k5e10 : Option Value} {oce10 kVe10 dce10 pme10 cde10 cte10 : Value} {sle10 : Array (Option Value)}
    (x_ge10 : PySem.W.nsIn K mainGlobals "NothingLeft" = some (some (.ref ce10))) (x_le10 : K.lookup ce10 = some (excClassObj nme10 qe10 ce10 Ne10 bse10 bme10 true sne10 sube10 abe10 cole10 dde10 k0e10 k1e10 k2e10 k3e10 k5e10 "ValueError.__new__")) (x_me10 : PySem.HandSPX.refsVE bme10 = true)
    (x_ie10 : PySem.W.findIn K (.ref ce10) "__init__" = some (some (.ref fe10))) (x_fe10 : K.lookup fe10 = some ⟨oce10, ode10, .func (PySem.W.fnOf "__init__" "NothingLeft.__init__" (defArgs s_NothingLeft___init__) (defBody s_NothingLeft___init__) (defScope s_NothingLeft___init__) .none kVe10 dce10 pme10 ane10 cde10 cte10), sle10⟩) (x_ce10 : PySem.W.codeIn K cde10 "NothingLeft.__init__" = true) (x_ke10 : PySem.W.keepIn K (.ref fe10) = true)
    (x_be10 : errB K ce10 fe10 ["word"] = true)
    {ce11 fe11 Ne11 : Addr} {nme11 qe11 : Str} {bse11 bme11 sube11 : List Value} {sne11 : List Str} {abe11 : Bool} {cole11 : Option Bool} {dde11 ode11 ane11 : Option Addr} {k0e11 k1e11 k2e11 k3e11 k5e11 : Option Value} {oce11 kVe11 dce11 pme11 cde11 cte11 : Value} {sle11 : Array (Option Value)}
    (x_ge11 : PySem.W.nsIn K mainGlobals "ParseError" = some (some (.ref ce11))) (x_le11 : K.lookup ce11 = some (excClassObj nme11 qe11 ce11 Ne11 bse11 bme11 true sne11 sube11 abe11 cole11 dde11 k0e11 k1e11 k2e11 k3e11 k5e11 "ValueError.__new__")) (x_me11 : PySem.HandSPX.refsVE bme11 = true)
    (x_ie11 : PySem.W.findIn K (.ref ce11) "__init__" = some (some (.ref fe11))) (x_fe11 : K.lookup fe11 = some ⟨oce11, ode11, .func (PySem.W.fnOf "__init__" "ParseError.__init__" (defArgs s_ParseError___init__) (defBody s_ParseError___init__) (defScope s_ParseError___init__) .none kVe11 dce11 pme11 ane11 cde11 cte11), sle11⟩) (x_ce11 : PySem.W.codeIn K cde11 "ParseError.__init__" = true) (x_ke11 : PySem.W.keepIn K (.ref fe11) = true)
    (x_be11 : errB K ce11 fe11 ["word", "place"] = true)
    {ce12 fe12 Ne12 : Addr} {nme12 qe12 : Str} {bse12 bme12 sube12 : List Value} {sne12 : List Str} {abe12 : Bool} {cole12 : Option Bool} {dde12 ode12 ane12 : Option Addr} {k0e12 k1e12 k2e12 k3e12 k5e12 : Option Value} {oce12 kVe12 dce12 pme12 cde12 cte12 : Value} {sle12 : Array (Option Value)}
    (x_ge12 : PySem.W.nsIn K mainGlobals "InvalidName" = some (some (.ref ce12))) (x_le12 : K.lookup ce12 = some (excClassObj nme12 qe12 ce12 Ne12 bse12 bme12 true sne12 sube12 abe12 cole12 dde12 k0e12 k1e12 k2e12 k3e12 k5e12 "ValueError.__new__")) (x_me12 : PySem.HandSPX.refsVE bme12 = true)
    (x_ie12 : PySem.W.findIn K (.ref ce12) "__init__" = some (some (.ref fe12))) (x_fe12 : K.lookup fe12 = some ⟨oce12, ode12, .func (PySem.W.fnOf "__init__" "InvalidName.__init__" (defArgs s_InvalidName___init__) (defBody s_InvalidName___init__) (defScope s_InvalidName___init__) .none kVe12 dce12 pme12 ane12 cde12 cte12), sle12⟩) (x_ce12 : PySem.W.codeIn K cde12 "InvalidName.__init__" = true) (x_ke12 : PySem.W.keepIn K (.ref fe12) = true)
    (x_be12 : errB K ce12 fe12 ["word", "name"] = true)
    {ce13 fe13 Ne13 : Addr} {nme13 qe13 : Str} {bse13 bme13 sube13 : List Value} {sne13 : List Str} {abe13 : Bool} {cole13 : Option Bool} {dde13 ode13 ane13 : Option Addr} {k0e13 k1e13 k2e13 k3e13 k5e13 : Option Value} {oce13 kVe13 dce13 pme13 cde13 cte13 : Value} {sle13 : Array (Option Value)}
    (x_ge13 : PySem.W.nsIn K mainGlobals "InUse" = some (some (.ref ce13))) (x_le13 : K.lookup ce13 = some (excClassObj nme13 qe13 ce13 Ne13 bse13 bme13 true sne13 sube13 abe13 cole13 dde13 k0e13 k1e13 k2e13 k3e13 k5e13 "ValueError.__new__")) (x_me13 : PySem.HandSPX.refsVE bme13 = true)
    (x_ie13 : PySem.W.findIn K (.ref ce13) "__init__" = some (some (.ref fe13))) (x_fe13 : K.lookup fe13 = some ⟨oce13, ode13, .func (PySem.W.fnOf "__init__" "InUse.__init__" (defArgs s_InUse___init__) (defBody s_InUse___init__) (defScope s_InUse___init__) .none kVe13 dce13 pme13 ane13 cde13 cte13), sle13⟩) (x_ce13 : PySem.W.codeIn K cde13 "InUse.__init__" = true) (x_ke13 : PySem.W.keepIn K (.ref fe13) = true)
    (x_be13 : errB K ce13 fe13 ["word", "name"] = true)
    {ce14 fe14 Ne14 : Addr} {nme14 qe14 : Str} {bse14 bme14 sube14 : List Value} {sne14 : List Str} {abe14 : Bool} {cole14 : Option Bool} {dde14 ode14 ane14 : Option Addr} {k0e14 k1e14 k2e14 k3e14 k5e14 : Option Value} {oce14 kVe14 dce14 pme14 cde14 cte14 : Value} {sle14 : Array (Option Value)}
    (x_ge14 : PySem.W.nsIn K mainGlobals "Cycle" = some (some (.ref ce14))) (x_le14 : K.lookup ce14 = some (excClassObj nme14 qe14 ce14 Ne14 bse14 bme14 true sne14 sube14 abe14 cole14 dde14 k0e14 k1e14 k2e14 k3e14 k5e14 "ValueError.__new__")) (x_me14 : PySem.HandSPX.refsVE bme14 = true)
    (x_ie14 : PySem.W.findIn K (.ref ce14) "__init__" = some (some (.ref fe14))) (x_fe14 : K.lookup fe14 = some ⟨oce14, ode14, .func (PySem.W.fnOf "__init__" "Cycle.__init__" (defArgs s_Cycle___init__) (defBody s_Cycle___init__) (defScope s_Cycle___init__) .none kVe14 dce14 pme14 ane14 cde14 cte14), sle14⟩) (x_ce14 : PySem.W.codeIn K cde14 "Cycle.__init__" = true) (x_ke14 : PySem.W.keepIn K (.ref fe14) = true)
    (x_be14 : errB K ce14 fe14 ["word", "name"] = true)
    {ce15 fe15 Ne15 : Addr} {nme15 qe15 : Str} {bse15 bme15 sube15 : List Value} {sne15 : List Str} {abe15 : Bool} {cole15 : Option Bool} {dde15 ode15 ane15 : Option Addr} {k0e15 k1e15 k2e15 k3e15 k5e15 : Option Value} {oce15 kVe15 dce15 pme15 cde15 cte15 : Value} {sle15 : Array (Option Value)}
    (x_ge15 : PySem.W.nsIn K mainGlobals "Unfit" = some (some (.ref ce15))) (x_le15 : K.lookup ce15 = some (excClassObj nme15 qe15 ce15 Ne15 bse15 bme15 true sne15 sube15 abe15 cole15 dde15 k0e15 k1e15 k2e15 k3e15 k5e15 "ValueError.__new__")) (x_me15 : PySem.HandSPX.refsVE bme15 = true)
    (x_ie15 : PySem.W.findIn K (.ref ce15) "__init__" = some (some (.ref fe15))) (x_fe15 : K.lookup fe15 = some ⟨oce15, ode15, .func (PySem.W.fnOf "__init__" "Unfit.__init__" (defArgs s_Unfit___init__) (defBody s_Unfit___init__) (defScope s_Unfit___init__) .none kVe15 dce15 pme15 ane15 cde15 cte15), sle15⟩) (x_ce15 : PySem.W.codeIn K cde15 "Unfit.__init__" = true) (x_ke15 : PySem.W.keepIn K (.ref fe15) = true)
    (x_be15 : errB K ce15 fe15 ["word", "name"] = true)
    {ce16 fe16 Ne16 : Addr} {nme16 qe16 : Str} {bse16 bme16 sube16 : List Value} {sne16 : List Str} {abe16 : Bool} {cole16 : Option Bool} {dde16 ode16 ane16 : Option Addr} {k0e16 k1e16 k2e16 k3e16 k5e16 : Option Value} {oce16 kVe16 dce16 pme16 cde16 cte16 : Value} {sle16 : Array (Option Value)}
    (x_ge16 : PySem.W.nsIn K mainGlobals "InvalidCommand" = some (some (.ref ce16))) (x_le16 : K.lookup ce16 = some (excClassObj nme16 qe16 ce16 Ne16 bse16 bme16 true sne16 sube16 abe16 cole16 dde16 k0e16 k1e16 k2e16 k3e16 k5e16 "ValueError.__new__")) (x_me16 : PySem.HandSPX.refsVE bme16 = true)
    (x_ie16 : PySem.W.findIn K (.ref ce16) "__init__" = some (some (.ref fe16))) (x_fe16 : K.lookup fe16 = some ⟨oce16, ode16, .func (PySem.W.fnOf "__init__" "InvalidCommand.__init__" (defArgs s_InvalidCommand___init__) (defBody s_InvalidCommand___init__) (defScope s_InvalidCommand___init__) .none kVe16 dce16 pme16 ane16 cde16 cte16), sle16⟩) (x_ce16 : PySem.W.codeIn K cde16 "InvalidCommand.__init__" = true) (x_ke16 : PySem.W.keepIn K (.ref fe16) = true)
    (x_be16 : errB K ce16 fe16 ["word", "index"] = true)
    {ce17 fe17 Ne17 : Addr} {nme17 qe17 : Str} {bse17 bme17 sube17 : List Value} {sne17 : List Str} {abe17 : Bool} {cole17 : Option Bool} {dde17 ode17 ane17 : Option Addr} {k0e17 k1e17 k2e17 k3e17 k5e17 : Option Value} {oce17 kVe17 dce17 pme17 cde17 cte17 : Value} {sle17 : Array (Option Value)}
    (x_ge17 : PySem.W.nsIn K mainGlobals "InvalidDocument" = some (some (.ref ce17))) (x_le17 : K.lookup ce17 = some (excClassObj nme17 qe17 ce17 Ne17 bse17 bme17 true sne17 sube17 abe17 cole17 dde17 k0e17 k1e17 k2e17 k3e17 k5e17 "ValueError.__new__")) (x_me17 : PySem.HandSPX.refsVE bme17 = true)
    (x_ie17 : PySem.W.findIn K (.ref ce17) "__init__" = some (some (.ref fe17))) (x_fe17 : K.lookup fe17 = some ⟨oce17, ode17, .func (PySem.W.fnOf "__init__" "InvalidDocument.__init__" (defArgs s_InvalidDocument___init__) (defBody s_InvalidDocument___init__) (defScope s_InvalidDocument___init__) .none kVe17 dce17 pme17 ane17 cde17 cte17), sle17⟩) (x_ce17 : PySem.W.codeIn K cde17 "InvalidDocument.__init__" = true) (x_ke17 : PySem.W.keepIn K (.ref fe17) = true)
    (x_be17 : errB K ce17 fe17 ["word", "row"] = true)
    {ce18 fe18 Ne18 : Addr} {nme18 qe18 : Str} {bse18 bme18 sube18 : List Value} {sne18 : List Str} {abe18 : Bool} {cole18 : Option Bool} {dde18 ode18 ane18 : Option Addr} {k0e18 k1e18 k2e18 k3e18 k5e18 : Option Value} {oce18 kVe18 dce18 pme18 cde18 cte18 : Value} {sle18 : Array (Option Value)}
    (x_ge18 : PySem.W.nsIn K mainGlobals "UnknownPiece" = some (some (.ref ce18))) (x_le18 : K.lookup ce18 = some (excClassObj nme18 qe18 ce18 Ne18 bse18 bme18 true sne18 sube18 abe18 cole18 dde18 k0e18 k1e18 k2e18 k3e18 k5e18 "LookupError.__new__")) (x_me18 : refsLE bme18 = true)
    (x_ie18 : PySem.W.findIn K (.ref ce18) "__init__" = some (some (.ref fe18))) (x_fe18 : K.lookup fe18 = some ⟨oce18, ode18, .func (PySem.W.fnOf "__init__" "UnknownPiece.__init__" (defArgs s_UnknownPiece___init__) (defBody s_UnknownPiece___init__) (defScope s_UnknownPiece___init__) .none kVe18 dce18 pme18 ane18 cde18 cte18), sle18⟩) (x_ce18 : PySem.W.codeIn K cde18 "UnknownPiece.__init__" = true) (x_ke18 : PySem.W.keepIn K (.ref fe18) = true)
    (x_be18 : errB K ce18 fe18 ["word", "name"] = true)
    {ce19 fe19 Ne19 : Addr} {nme19 qe19 : Str} {bse19 bme19 sube19 : List Value} {sne19 : List Str} {abe19 : Bool} {cole19 : Option Bool} {dde19 ode19 ane19 : Option Addr} {k0e19 k1e19 k2e19 k3e19 k5e19 : Option Value} {oce19 kVe19 dce19 pme19 cde19 cte19 : Value} {sle19 : Array (Option Value)}
    (x_ge19 : PySem.W.nsIn K mainGlobals "UnknownName" = some (some (.ref ce19))) (x_le19 : K.lookup ce19 = some (excClassObj nme19 qe19 ce19 Ne19 bse19 bme19 true sne19 sube19 abe19 cole19 dde19 k0e19 k1e19 k2e19 k3e19 k5e19 "LookupError.__new__")) (x_me19 : refsLE bme19 = true)
    (x_ie19 : PySem.W.findIn K (.ref ce19) "__init__" = some (some (.ref fe19))) (x_fe19 : K.lookup fe19 = some ⟨oce19, ode19, .func (PySem.W.fnOf "__init__" "UnknownName.__init__" (defArgs s_UnknownName___init__) (defBody s_UnknownName___init__) (defScope s_UnknownName___init__) .none kVe19 dce19 pme19 ane19 cde19 cte19), sle19⟩) (x_ce19 : PySem.W.codeIn K cde19 "UnknownName.__init__" = true) (x_ke19 : PySem.W.keepIn K (.ref fe19) = true)
    (x_be19 : errB K ce19 fe19 ["word", "name"] = true)
    (x_qq : kindsB K [ce0, ce1, ce2, ce3, ce4, ce5, ce6, ce7, ce8, ce9, ce10, ce11, ce12, ce13, ce14, ce15, ce16, ce17, ce18, ce19] = true) (x_qG : kindB1 K [ce0, ce1, ce2, ce3, ce4, ce5, ce6, ce7, ce8, ce9, ce10, ce11, ce12, ce13, ce14, ce15, ce16, ce17, ce18, ce19] (.ref cG) false = true) (x_qV : kindB1 K [ce0, ce1, ce2, ce3, ce4, ce5, ce6, ce7, ce8, ce9, ce10, ce11, ce12, ce13, ce14, ce15, ce16, ce17, ce18, ce19] (.type "ValueError") false = true) (x_qM : kindB1 K [ce0, ce1, ce2, ce3, ce4, ce5, ce6, ce7, ce8, ce9, ce10, ce11, ce12, ce13, ce14, ce15, ce16, ce17, ce18, ce19] (.ref cM) true = true) (x_qL : kindB1 K [ce0, ce1, ce2, ce3, ce4, ce5, ce6, ce7, ce8, ce9, ce10, ce11, ce12, ce13, ce14, ce15, ce16, ce17, ce18, ce19] (.type "LookupError") true = true) :
    ∃ fd : FuncData, (∀ (s : Shared) (v : Value), BindsTo s fd ⟨[v], []⟩ [("_law_script", v)]) ∧ ∀ base : Heap, K.In base → base.Ns mainGlobals mg → FnOk l.prog w K mg base CX0 60 fa fd ["_law_script"] (spLaw K) := by
  have e := hfa.symm.trans (PySem.W.mg_of X G a8)
  cases e
  have F1 := fun_mk (st := s_bag) l1 c1 k1
  have b1 := F1.binds (ps := ["_law_script"]) fun _ _ _ _ _ _ us hl => match us, hl with | [_], _ => rfl
  have F2 := fun_mk (st := s_pull) l2 c2 k2
  have b2 := F2.binds (ps := ["_law_bag_here", "_law_many"]) fun _ _ _ _ _ _ us hl => match us, hl with | [_, _], _ => rfl
  have F3 := fun_mk (st := s_of) l3 c3 k3
  have b3 := F3.binds (ps := ["_law_bag_here", "_law_some"]) fun _ _ _ _ _ _ us hl => match us, hl with | [_, _], _ => rfl
  have F4 := fun_mk (st := s_same) l4 c4 k4
  have b4 := F4.binds (ps := ["_law_found", "_law_due"]) fun _ _ _ _ _ _ us hl => match us, hl with | [_, _], _ => rfl
  have F5 := fun_mk (st := s_field) l5 c5 k5
  have b5 := F5.binds (ps := ["_law_e"]) fun _ _ _ _ _ _ us hl => match us, hl with | [_], _ => rfl
  have F6 := fun_mk (st := s_bases) l6 c6 k6
  have b6 := F6.binds (ps := ["_law_e"]) fun _ _ _ _ _ _ us hl => match us, hl with | [_], _ => rfl
  have F7 := fun_mk (st := s_kinds) l7 c7 k7
  have b7 := F7.binds (ps := ["_law_e"]) fun _ _ _ _ _ _ us hl => match us, hl with | [_], _ => rfl
  have F8 := fun_mk (st := s_law) l8 c8 k8
  have b8 := F8.binds (ps := ["_law_script"]) fun _ _ _ _ _ _ us hl => match us, hl with | [_], _ => rfl
  have T : Txt K mg ⟨f1, PySem.W.fnOf "_law_bag" "_law_bag" (defArgs s_bag) (defBody s_bag) (defScope s_bag) .none kV1 dc1 pm1 an1 cd1 ct1, f2, PySem.W.fnOf "_law_pull" "_law_pull" (defArgs s_pull) (defBody s_pull) (defScope s_pull) .none kV2 dc2 pm2 an2 cd2 ct2, f3, PySem.W.fnOf "_law_of" "_law_of" (defArgs s_of) (defBody s_of) (defScope s_of) .none kV3 dc3 pm3 an3 cd3 ct3, f4, PySem.W.fnOf "_law_same" "_law_same" (defArgs s_same) (defBody s_same) (defScope s_same) .none kV4 dc4 pm4 an4 cd4 ct4, f5, PySem.W.fnOf "_law_field" "_law_field" (defArgs s_field) (defBody s_field) (defScope s_field) .none kV5 dc5 pm5 an5 cd5 ct5, f6, PySem.W.fnOf "_law_bases" "_law_bases" (defArgs s_bases) (defBody s_bases) (defScope s_bases) .none kV6 dc6 pm6 an6 cd6 ct6, f7, PySem.W.fnOf "_law_kinds" "_law_kinds" (defArgs s_kinds) (defBody s_kinds) (defScope s_kinds) .none kV7 dc7 pm7 an7 cd7 ct7, fa, PySem.W.fnOf "law" "law" (defArgs s_law) (defBody s_law) (defScope s_law) .none kV8 dc8 pm8 an8 cd8 ct8⟩ := ⟨⟨F1, PySem.W.mg_of X G a1, b1⟩, ⟨F2, PySem.W.mg_of X G a2, b2⟩, ⟨F3, PySem.W.mg_of X G a3, b3⟩, ⟨F4, PySem.W.mg_of X G a4, b4⟩, ⟨F5, PySem.W.mg_of X G a5, b5⟩, ⟨F6, PySem.W.mg_of X G a6, b6⟩, ⟨F7, PySem.W.mg_of X G a7, b7⟩, ⟨F8, PySem.W.mg_of X G a8, b8⟩, PySem.W.mg_none_of X G z_all, PySem.W.mg_none_of X G z_bool, PySem.W.mg_none_of X G z_int, PySem.W.mg_none_of X G z_isinstance, PySem.W.mg_none_of X G z_len, PySem.W.mg_none_of X G z_list, PySem.W.mg_none_of X G z_range, PySem.W.mg_none_of X G z_str, PySem.W.mg_none_of X G z_tuple⟩
  have FG : FunD K "__init__" "GrainError.__init__" (defArgs s_GrainError___init__) (defBody s_GrainError___init__) (defScope s_GrainError___init__) [.str "grainerror", .str "a value is wrong"] [] fG (PySem.W.fnOf "__init__" "GrainError.__init__" (defArgs s_GrainError___init__) (defBody s_GrainError___init__) (defScope s_GrainError___init__) (.ref tG) kVG dcG pmG anG cdG ctG) :=
    ⟨⟨_, _, _, _, _, _, _, _, _, _, rfl, x_lG, x_cG, .inr ⟨by simp, tG, _, [.str "grainerror" kdG1, .str "a value is wrong" kdG2], _, rfl, x_tG, rfl, .cons ⟨_, rfl⟩ (.cons ⟨_, rfl⟩ .nil)⟩, .inl rfl⟩, x_kG⟩
  have bG : Binds K (PySem.W.fnOf "__init__" "GrainError.__init__" (defArgs s_GrainError___init__) (defBody s_GrainError___init__) (defScope s_GrainError___init__) (.ref tG) kVG dcG pmG anG cdG ctG) ["self", "word", "message"] [] := by
    obtain ⟨ds, v, b⟩ := FG.binds1 (ps := ["self", "word", "message"]) 3 2 (by simp) rfl (fun T kV doc pm an cdv ct us its h1 h2 => match us, h1, its, h2 with | [_, _, _], _, [_, _], _ => ⟨_, rfl, rfl⟩)
    cases v
    exact b
  have FM : FunD K "__init__" "MissingError.__init__" (defArgs s_MissingError___init__) (defBody s_MissingError___init__) (defScope s_MissingError___init__) [.str "missingerror", .str "a name is unknown"] [] fM (PySem.W.fnOf "__init__" "MissingError.__init__" (defArgs s_MissingError___init__) (defBody s_MissingError___init__) (defScope s_MissingError___init__) (.ref tM) kVM dcM pmM anM cdM ctM) :=
    ⟨⟨_, _, _, _, _, _, _, _, _, _, rfl, x_lM, x_cM, .inr ⟨by simp, tM, _, [.str "missingerror" kdM1, .str "a name is unknown" kdM2], _, rfl, x_tM, rfl, .cons ⟨_, rfl⟩ (.cons ⟨_, rfl⟩ .nil)⟩, .inl rfl⟩, x_kM⟩
  have bM : Binds K (PySem.W.fnOf "__init__" "MissingError.__init__" (defArgs s_MissingError___init__) (defBody s_MissingError___init__) (defScope s_MissingError___init__) (.ref tM) kVM dcM pmM anM cdM ctM) ["self", "word", "message"] [] := by
    obtain ⟨ds, v, b⟩ := FM.binds1 (ps := ["self", "word", "message"]) 3 2 (by simp) rfl (fun T kV doc pm an cdv ct us its h1 h2 => match us, h1, its, h2 with | [_, _, _], _, [_, _], _ => ⟨_, rfl, rfl⟩)
    cases v
    exact b
  have Fe0 := fun_mk (st := s_InvalidFraction___init__) x_fe0 x_ce0 x_ke0
  have be0 := Fe0.binds (ps := ["self"]) fun _ _ _ _ _ _ us hl => match us, hl with | [_], _ => rfl
  have de0 : ErT K mg "ValueError.__new__" PySem.HandSPX.veTail "InvalidFraction" "InvalidFraction.__init__" s_InvalidFraction___init__ ["self"] ⟨ce0, fe0, PySem.W.fnOf "__init__" "InvalidFraction.__init__" (defArgs s_InvalidFraction___init__) (defBody s_InvalidFraction___init__) (defScope s_InvalidFraction___init__) .none kVe0 dce0 pme0 ane0 cde0 cte0⟩ := ert_mk (PySem.W.mg_of X G x_ge0) x_le0 (EXV.Line.ve x_me0) x_ie0 Fe0 be0 x_be0
  have Fe1 := fun_mk (st := s_InvalidStatement___init__) x_fe1 x_ce1 x_ke1
  have be1 := Fe1.binds (ps := ["self", "place"]) fun _ _ _ _ _ _ us hl => match us, hl with | [_, _], _ => rfl
  have de1 : ErT K mg "ValueError.__new__" PySem.HandSPX.veTail "InvalidStatement" "InvalidStatement.__init__" s_InvalidStatement___init__ ["self", "place"] ⟨ce1, fe1, PySem.W.fnOf "__init__" "InvalidStatement.__init__" (defArgs s_InvalidStatement___init__) (defBody s_InvalidStatement___init__) (defScope s_InvalidStatement___init__) .none kVe1 dce1 pme1 ane1 cde1 cte1⟩ := ert_mk (PySem.W.mg_of X G x_ge1) x_le1 (EXV.Line.ve x_me1) x_ie1 Fe1 be1 x_be1
  have Fe2 := fun_mk (st := s_TooLarge___init__) x_fe2 x_ce2 x_ke2
  have be2 := Fe2.binds (ps := ["self", "limit"]) fun _ _ _ _ _ _ us hl => match us, hl with | [_, _], _ => rfl
  have de2 : ErT K mg "ValueError.__new__" PySem.HandSPX.veTail "TooLarge" "TooLarge.__init__" s_TooLarge___init__ ["self", "limit"] ⟨ce2, fe2, PySem.W.fnOf "__init__" "TooLarge.__init__" (defArgs s_TooLarge___init__) (defBody s_TooLarge___init__) (defScope s_TooLarge___init__) .none kVe2 dce2 pme2 ane2 cde2 cte2⟩ := ert_mk (PySem.W.mg_of X G x_ge2) x_le2 (EXV.Line.ve x_me2) x_ie2 Fe2 be2 x_be2
  have Fe3 := fun_mk (st := s_UnknownPlayer___init__) x_fe3 x_ce3 x_ke3
  have be3 := Fe3.binds (ps := ["self", "player"]) fun _ _ _ _ _ _ us hl => match us, hl with | [_, _], _ => rfl
  have de3 : ErT K mg "ValueError.__new__" PySem.HandSPX.veTail "UnknownPlayer" "UnknownPlayer.__init__" s_UnknownPlayer___init__ ["self", "player"] ⟨ce3, fe3, PySem.W.fnOf "__init__" "UnknownPlayer.__init__" (defArgs s_UnknownPlayer___init__) (defBody s_UnknownPlayer___init__) (defScope s_UnknownPlayer___init__) .none kVe3 dce3 pme3 ane3 cde3 cte3⟩ := ert_mk (PySem.W.mg_of X G x_ge3) x_le3 (EXV.Line.ve x_me3) x_ie3 Fe3 be3 x_be3
  have Fe4 := fun_mk (st := s_DuplicatePiece___init__) x_fe4 x_ce4 x_ke4
  have be4 := Fe4.binds (ps := ["self", "name"]) fun _ _ _ _ _ _ us hl => match us, hl with | [_, _], _ => rfl
  have de4 : ErT K mg "ValueError.__new__" PySem.HandSPX.veTail "DuplicatePiece" "DuplicatePiece.__init__" s_DuplicatePiece___init__ ["self", "name"] ⟨ce4, fe4, PySem.W.fnOf "__init__" "DuplicatePiece.__init__" (defArgs s_DuplicatePiece___init__) (defBody s_DuplicatePiece___init__) (defScope s_DuplicatePiece___init__) .none kVe4 dce4 pme4 ane4 cde4 cte4⟩ := ert_mk (PySem.W.mg_of X G x_ge4) x_le4 (EXV.Line.ve x_me4) x_ie4 Fe4 be4 x_be4
  have Fe5 := fun_mk (st := s_InvalidWeights___init__) x_fe5 x_ce5 x_ke5
  have be5 := Fe5.binds (ps := ["self"]) fun _ _ _ _ _ _ us hl => match us, hl with | [_], _ => rfl
  have de5 : ErT K mg "ValueError.__new__" PySem.HandSPX.veTail "InvalidWeights" "InvalidWeights.__init__" s_InvalidWeights___init__ ["self"] ⟨ce5, fe5, PySem.W.fnOf "__init__" "InvalidWeights.__init__" (defArgs s_InvalidWeights___init__) (defBody s_InvalidWeights___init__) (defScope s_InvalidWeights___init__) .none kVe5 dce5 pme5 ane5 cde5 cte5⟩ := ert_mk (PySem.W.mg_of X G x_ge5) x_le5 (EXV.Line.ve x_me5) x_ie5 Fe5 be5 x_be5
  have Fe6 := fun_mk (st := s_InvalidWorths___init__) x_fe6 x_ce6 x_ke6
  have be6 := Fe6.binds (ps := ["self"]) fun _ _ _ _ _ _ us hl => match us, hl with | [_], _ => rfl
  have de6 : ErT K mg "ValueError.__new__" PySem.HandSPX.veTail "InvalidWorths" "InvalidWorths.__init__" s_InvalidWorths___init__ ["self"] ⟨ce6, fe6, PySem.W.fnOf "__init__" "InvalidWorths.__init__" (defArgs s_InvalidWorths___init__) (defBody s_InvalidWorths___init__) (defScope s_InvalidWorths___init__) .none kVe6 dce6 pme6 ane6 cde6 cte6⟩ := ert_mk (PySem.W.mg_of X G x_ge6) x_le6 (EXV.Line.ve x_me6) x_ie6 Fe6 be6 x_be6
  have Fe7 := fun_mk (st := s_InvalidAnswer___init__) x_fe7 x_ce7 x_ke7
  have be7 := Fe7.binds (ps := ["self"]) fun _ _ _ _ _ _ us hl => match us, hl with | [_], _ => rfl
  have de7 : ErT K mg "ValueError.__new__" PySem.HandSPX.veTail "InvalidAnswer" "InvalidAnswer.__init__" s_InvalidAnswer___init__ ["self"] ⟨ce7, fe7, PySem.W.fnOf "__init__" "InvalidAnswer.__init__" (defArgs s_InvalidAnswer___init__) (defBody s_InvalidAnswer___init__) (defScope s_InvalidAnswer___init__) .none kVe7 dce7 pme7 ane7 cde7 cte7⟩ := ert_mk (PySem.W.mg_of X G x_ge7) x_le7 (EXV.Line.ve x_me7) x_ie7 Fe7 be7 x_be7
  have Fe8 := fun_mk (st := s_BrokenRule___init__) x_fe8 x_ce8 x_ke8
  have be8 := Fe8.binds (ps := ["self", "player"]) fun _ _ _ _ _ _ us hl => match us, hl with | [_, _], _ => rfl
  have de8 : ErT K mg "ValueError.__new__" PySem.HandSPX.veTail "BrokenRule" "BrokenRule.__init__" s_BrokenRule___init__ ["self", "player"] ⟨ce8, fe8, PySem.W.fnOf "__init__" "BrokenRule.__init__" (defArgs s_BrokenRule___init__) (defBody s_BrokenRule___init__) (defScope s_BrokenRule___init__) .none kVe8 dce8 pme8 ane8 cde8 cte8⟩ := ert_mk (PySem.W.mg_of X G x_ge8) x_le8 (EXV.Line.ve x_me8) x_ie8 Fe8 be8 x_be8
  have Fe9 := fun_mk (st := s_NothingExpected___init__) x_fe9 x_ce9 x_ke9
  have be9 := Fe9.binds (ps := ["self"]) fun _ _ _ _ _ _ us hl => match us, hl with | [_], _ => rfl
  have de9 : ErT K mg "ValueError.__new__" PySem.HandSPX.veTail "NothingExpected" "NothingExpected.__init__" s_NothingExpected___init__ ["self"] ⟨ce9, fe9, PySem.W.fnOf "__init__" "NothingExpected.__init__" (defArgs s_NothingExpected___init__) (defBody s_NothingExpected___init__) (defScope s_NothingExpected___init__) .none kVe9 dce9 pme9 ane9 cde9 cte9⟩ := ert_mk (PySem.W.mg_of X G x_ge9) x_le9 (EXV.Line.ve x_me9) x_ie9 Fe9 be9 x_be9
  have Fe10 := fun_mk (st := s_NothingLeft___init__) x_fe10 x_ce10 x_ke10
  have be10 := Fe10.binds (ps := ["self"]) fun _ _ _ _ _ _ us hl => match us, hl with | [_], _ => rfl
  have de10 : ErT K mg "ValueError.__new__" PySem.HandSPX.veTail "NothingLeft" "NothingLeft.__init__" s_NothingLeft___init__ ["self"] ⟨ce10, fe10, PySem.W.fnOf "__init__" "NothingLeft.__init__" (defArgs s_NothingLeft___init__) (defBody s_NothingLeft___init__) (defScope s_NothingLeft___init__) .none kVe10 dce10 pme10 ane10 cde10 cte10⟩ := ert_mk (PySem.W.mg_of X G x_ge10) x_le10 (EXV.Line.ve x_me10) x_ie10 Fe10 be10 x_be10
  have Fe11 := fun_mk (st := s_ParseError___init__) x_fe11 x_ce11 x_ke11
  have be11 := Fe11.binds (ps := ["self", "place"]) fun _ _ _ _ _ _ us hl => match us, hl with | [_, _], _ => rfl
  have de11 : ErT K mg "ValueError.__new__" PySem.HandSPX.veTail "ParseError" "ParseError.__init__" s_ParseError___init__ ["self", "place"] ⟨ce11, fe11, PySem.W.fnOf "__init__" "ParseError.__init__" (defArgs s_ParseError___init__) (defBody s_ParseError___init__) (defScope s_ParseError___init__) .none kVe11 dce11 pme11 ane11 cde11 cte11⟩ := ert_mk (PySem.W.mg_of X G x_ge11) x_le11 (EXV.Line.ve x_me11) x_ie11 Fe11 be11 x_be11
  have Fe12 := fun_mk (st := s_InvalidName___init__) x_fe12 x_ce12 x_ke12
  have be12 := Fe12.binds (ps := ["self", "name"]) fun _ _ _ _ _ _ us hl => match us, hl with | [_, _], _ => rfl
  have de12 : ErT K mg "ValueError.__new__" PySem.HandSPX.veTail "InvalidName" "InvalidName.__init__" s_InvalidName___init__ ["self", "name"] ⟨ce12, fe12, PySem.W.fnOf "__init__" "InvalidName.__init__" (defArgs s_InvalidName___init__) (defBody s_InvalidName___init__) (defScope s_InvalidName___init__) .none kVe12 dce12 pme12 ane12 cde12 cte12⟩ := ert_mk (PySem.W.mg_of X G x_ge12) x_le12 (EXV.Line.ve x_me12) x_ie12 Fe12 be12 x_be12
  have Fe13 := fun_mk (st := s_InUse___init__) x_fe13 x_ce13 x_ke13
  have be13 := Fe13.binds (ps := ["self", "name"]) fun _ _ _ _ _ _ us hl => match us, hl with | [_, _], _ => rfl
  have de13 : ErT K mg "ValueError.__new__" PySem.HandSPX.veTail "InUse" "InUse.__init__" s_InUse___init__ ["self", "name"] ⟨ce13, fe13, PySem.W.fnOf "__init__" "InUse.__init__" (defArgs s_InUse___init__) (defBody s_InUse___init__) (defScope s_InUse___init__) .none kVe13 dce13 pme13 ane13 cde13 cte13⟩ := ert_mk (PySem.W.mg_of X G x_ge13) x_le13 (EXV.Line.ve x_me13) x_ie13 Fe13 be13 x_be13
  have Fe14 := fun_mk (st := s_Cycle___init__) x_fe14 x_ce14 x_ke14
  have be14 := Fe14.binds (ps := ["self", "name"]) fun _ _ _ _ _ _ us hl => match us, hl with | [_, _], _ => rfl
  have de14 : ErT K mg "ValueError.__new__" PySem.HandSPX.veTail "Cycle" "Cycle.__init__" s_Cycle___init__ ["self", "name"] ⟨ce14, fe14, PySem.W.fnOf "__init__" "Cycle.__init__" (defArgs s_Cycle___init__) (defBody s_Cycle___init__) (defScope s_Cycle___init__) .none kVe14 dce14 pme14 ane14 cde14 cte14⟩ := ert_mk (PySem.W.mg_of X G x_ge14) x_le14 (EXV.Line.ve x_me14) x_ie14 Fe14 be14 x_be14
  have Fe15 := fun_mk (st := s_Unfit___init__) x_fe15 x_ce15 x_ke15
  have be15 := Fe15.binds (ps := ["self", "name"]) fun _ _ _ _ _ _ us hl => match us, hl with | [_, _], _ => rfl
  have de15 : ErT K mg "ValueError.__new__" PySem.HandSPX.veTail "Unfit" "Unfit.__init__" s_Unfit___init__ ["self", "name"] ⟨ce15, fe15, PySem.W.fnOf "__init__" "Unfit.__init__" (defArgs s_Unfit___init__) (defBody s_Unfit___init__) (defScope s_Unfit___init__) .none kVe15 dce15 pme15 ane15 cde15 cte15⟩ := ert_mk (PySem.W.mg_of X G x_ge15) x_le15 (EXV.Line.ve x_me15) x_ie15 Fe15 be15 x_be15
  have Fe16 := fun_mk (st := s_InvalidCommand___init__) x_fe16 x_ce16 x_ke16
  have be16 := Fe16.binds (ps := ["self", "index"]) fun _ _ _ _ _ _ us hl => match us, hl with | [_, _], _ => rfl
  have de16 : ErT K mg "ValueError.__new__" PySem.HandSPX.veTail "InvalidCommand" "InvalidCommand.__init__" s_InvalidCommand___init__ ["self", "index"] ⟨ce16, fe16, PySem.W.fnOf "__init__" "InvalidCommand.__init__" (defArgs s_InvalidCommand___init__) (defBody s_InvalidCommand___init__) (defScope s_InvalidCommand___init__) .none kVe16 dce16 pme16 ane16 cde16 cte16⟩ := ert_mk (PySem.W.mg_of X G x_ge16) x_le16 (EXV.Line.ve x_me16) x_ie16 Fe16 be16 x_be16
  have Fe17 := fun_mk (st := s_InvalidDocument___init__) x_fe17 x_ce17 x_ke17
  have be17 := Fe17.binds (ps := ["self", "row"]) fun _ _ _ _ _ _ us hl => match us, hl with | [_, _], _ => rfl
  have de17 : ErT K mg "ValueError.__new__" PySem.HandSPX.veTail "InvalidDocument" "InvalidDocument.__init__" s_InvalidDocument___init__ ["self", "row"] ⟨ce17, fe17, PySem.W.fnOf "__init__" "InvalidDocument.__init__" (defArgs s_InvalidDocument___init__) (defBody s_InvalidDocument___init__) (defScope s_InvalidDocument___init__) .none kVe17 dce17 pme17 ane17 cde17 cte17⟩ := ert_mk (PySem.W.mg_of X G x_ge17) x_le17 (EXV.Line.ve x_me17) x_ie17 Fe17 be17 x_be17
  have Fe18 := fun_mk (st := s_UnknownPiece___init__) x_fe18 x_ce18 x_ke18
  have be18 := Fe18.binds (ps := ["self", "name"]) fun _ _ _ _ _ _ us hl => match us, hl with | [_, _], _ => rfl
  have de18 : ErT K mg "LookupError.__new__" EXV.leTail "UnknownPiece" "UnknownPiece.__init__" s_UnknownPiece___init__ ["self", "name"] ⟨ce18, fe18, PySem.W.fnOf "__init__" "UnknownPiece.__init__" (defArgs s_UnknownPiece___init__) (defBody s_UnknownPiece___init__) (defScope s_UnknownPiece___init__) .none kVe18 dce18 pme18 ane18 cde18 cte18⟩ := ert_mk (PySem.W.mg_of X G x_ge18) x_le18 (line_le x_me18) x_ie18 Fe18 be18 x_be18
  have Fe19 := fun_mk (st := s_UnknownName___init__) x_fe19 x_ce19 x_ke19
  have be19 := Fe19.binds (ps := ["self", "name"]) fun _ _ _ _ _ _ us hl => match us, hl with | [_, _], _ => rfl
  have de19 : ErT K mg "LookupError.__new__" EXV.leTail "UnknownName" "UnknownName.__init__" s_UnknownName___init__ ["self", "name"] ⟨ce19, fe19, PySem.W.fnOf "__init__" "UnknownName.__init__" (defArgs s_UnknownName___init__) (defBody s_UnknownName___init__) (defScope s_UnknownName___init__) .none kVe19 dce19 pme19 ane19 cde19 cte19⟩ := ert_mk (PySem.W.mg_of X G x_ge19) x_le19 (line_le x_me19) x_ie19 Fe19 be19 x_be19
  have ET : ExE K mg ⟨⟨cG, fG, PySem.W.fnOf "__init__" "GrainError.__init__" (defArgs s_GrainError___init__) (defBody s_GrainError___init__) (defScope s_GrainError___init__) (.ref tG) kVG dcG pmG anG cdG ctG⟩, ⟨cM, fM, PySem.W.fnOf "__init__" "MissingError.__init__" (defArgs s_MissingError___init__) (defBody s_MissingError___init__) (defScope s_MissingError___init__) (.ref tM) kVM dcM pmM anM cdM ctM⟩, ⟨ce0, fe0, PySem.W.fnOf "__init__" "InvalidFraction.__init__" (defArgs s_InvalidFraction___init__) (defBody s_InvalidFraction___init__) (defScope s_InvalidFraction___init__) .none kVe0 dce0 pme0 ane0 cde0 cte0⟩, ⟨ce1, fe1, PySem.W.fnOf "__init__" "InvalidStatement.__init__" (defArgs s_InvalidStatement___init__) (defBody s_InvalidStatement___init__) (defScope s_InvalidStatement___init__) .none kVe1 dce1 pme1 ane1 cde1 cte1⟩, ⟨ce2, fe2, PySem.W.fnOf "__init__" "TooLarge.__init__" (defArgs s_TooLarge___init__) (defBody s_TooLarge___init__) (defScope s_TooLarge___init__) .none kVe2 dce2 pme2 ane2 cde2 cte2⟩, ⟨ce3, fe3, PySem.W.fnOf "__init__" "UnknownPlayer.__init__" (defArgs s_UnknownPlayer___init__) (defBody s_UnknownPlayer___init__) (defScope s_UnknownPlayer___init__) .none kVe3 dce3 pme3 ane3 cde3 cte3⟩, ⟨ce4, fe4, PySem.W.fnOf "__init__" "DuplicatePiece.__init__" (defArgs s_DuplicatePiece___init__) (defBody s_DuplicatePiece___init__) (defScope s_DuplicatePiece___init__) .none kVe4 dce4 pme4 ane4 cde4 cte4⟩, ⟨ce5, fe5, PySem.W.fnOf "__init__" "InvalidWeights.__init__" (defArgs s_InvalidWeights___init__) (defBody s_InvalidWeights___init__) (defScope s_InvalidWeights___init__) .none kVe5 dce5 pme5 ane5 cde5 cte5⟩, ⟨ce6, fe6, PySem.W.fnOf "__init__" "InvalidWorths.__init__" (defArgs s_InvalidWorths___init__) (defBody s_InvalidWorths___init__) (defScope s_InvalidWorths___init__) .none kVe6 dce6 pme6 ane6 cde6 cte6⟩, ⟨ce7, fe7, PySem.W.fnOf "__init__" "InvalidAnswer.__init__" (defArgs s_InvalidAnswer___init__) (defBody s_InvalidAnswer___init__) (defScope s_InvalidAnswer___init__) .none kVe7 dce7 pme7 ane7 cde7 cte7⟩, ⟨ce8, fe8, PySem.W.fnOf "__init__" "BrokenRule.__init__" (defArgs s_BrokenRule___init__) (defBody s_BrokenRule___init__) (defScope s_BrokenRule___init__) .none kVe8 dce8 pme8 ane8 cde8 cte8⟩, ⟨ce9, fe9, PySem.W.fnOf "__init__" "NothingExpected.__init__" (defArgs s_NothingExpected___init__) (defBody s_NothingExpected___init__) (defScope s_NothingExpected___init__) .none kVe9 dce9 pme9 ane9 cde9 cte9⟩, ⟨ce10, fe10, PySem.W.fnOf "__init__" "NothingLeft.__init__" (defArgs s_NothingLeft___init__) (defBody s_NothingLeft___init__) (defScope s_NothingLeft___init__) .none kVe10 dce10 pme10 ane10 cde10 cte10⟩, ⟨ce11, fe11, PySem.W.fnOf "__init__" "ParseError.__init__" (defArgs s_ParseError___init__) (defBody s_ParseError___init__) (defScope s_ParseError___init__) .none kVe11 dce11 pme11 ane11 cde11 cte11⟩, ⟨ce12, fe12, PySem.W.fnOf "__init__" "InvalidName.__init__" (defArgs s_InvalidName___init__) (defBody s_InvalidName___init__) (defScope s_InvalidName___init__) .none kVe12 dce12 pme12 ane12 cde12 cte12⟩, ⟨ce13, fe13, PySem.W.fnOf "__init__" "InUse.__init__" (defArgs s_InUse___init__) (defBody s_InUse___init__) (defScope s_InUse___init__) .none kVe13 dce13 pme13 ane13 cde13 cte13⟩, ⟨ce14, fe14, PySem.W.fnOf "__init__" "Cycle.__init__" (defArgs s_Cycle___init__) (defBody s_Cycle___init__) (defScope s_Cycle___init__) .none kVe14 dce14 pme14 ane14 cde14 cte14⟩, ⟨ce15, fe15, PySem.W.fnOf "__init__" "Unfit.__init__" (defArgs s_Unfit___init__) (defBody s_Unfit___init__) (defScope s_Unfit___init__) .none kVe15 dce15 pme15 ane15 cde15 cte15⟩, ⟨ce16, fe16, PySem.W.fnOf "__init__" "InvalidCommand.__init__" (defArgs s_InvalidCommand___init__) (defBody s_InvalidCommand___init__) (defScope s_InvalidCommand___init__) .none kVe16 dce16 pme16 ane16 cde16 cte16⟩, ⟨ce17, fe17, PySem.W.fnOf "__init__" "InvalidDocument.__init__" (defArgs s_InvalidDocument___init__) (defBody s_InvalidDocument___init__) (defScope s_InvalidDocument___init__) .none kVe17 dce17 pme17 ane17 cde17 cte17⟩, ⟨ce18, fe18, PySem.W.fnOf "__init__" "UnknownPiece.__init__" (defArgs s_UnknownPiece___init__) (defBody s_UnknownPiece___init__) (defScope s_UnknownPiece___init__) .none kVe18 dce18 pme18 ane18 cde18 cte18⟩, ⟨ce19, fe19, PySem.W.fnOf "__init__" "UnknownName.__init__" (defArgs s_UnknownName___init__) (defBody s_UnknownName___init__) (defScope s_UnknownName___init__) .none kVe19 dce19 pme19 ane19 cde19 cte19⟩⟩ := ⟨PySem.W.mg_of X G x_gG, ⟨x_rG, x_sG⟩, ⟨x_vG, rfl⟩, FG, bG, PySem.W.mg_of X G x_gM, ⟨x_rM, x_sM⟩, ⟨x_vM, rfl⟩, FM, bM, PySem.W.mg_none_of X G x_nG, x_iG, PySem.W.mg_none_of X G x_nM, x_iM, de0, de1, de2, de3, de4, de5, de6, de7, de8, de9, de10, de11, de12, de13, de14, de15, de16, de17, de18, de19, kinds_of x_qq, kind_of x_qG, kind_of x_qV, kindN_of x_qM, kindN_of x_qL⟩
  exact ⟨PySem.W.fnOf "law" "law" (defArgs s_law) (defBody s_law) (defScope s_law) .none kV8 dc8 pm8 an8 cd8 ct8, fun s v => .of_eq rfl, fun base _ _ => ok_law T ET⟩
theorem walk {l : PySem.W.OpenLaw} {q : Program} {loose : List Str} {XP : (Str → Option Value) → Heap → Prop} {YP : World → Heap → Prop} {d : DefRec} {K : Params → PySem.W.Frag} (hn : l.most = some 63) (hdf : d.params.defaults = [])
    (hY : ∀ (w : World) (h : Heap), YP w h → (K w.params).In h)
    (F : ∀ (w : World) (mg : Str → Option Value) (fa : Addr) (h : Heap), (K w.params).In h → h.Ns mainGlobals mg → mg d.name = some (.ref fa) →
      ∃ fd : FuncData, (∀ (s : Shared) (u : Value), BindsTo s fd ⟨[u], []⟩ [("_law_script", u)]) ∧ ∀ base : Heap, (K w.params).In base → base.Ns mainGlobals mg → FnOk l.prog w (K w.params) mg base CX0 60 fa fd ["_law_script"] (spLaw (K w.params))) :
    PySem.W.WalkO q loose XP YP l.row.toRowW d [] (fun f vs => PySem.call f vs) :=
  L2.walk_of (n := 63) (k := 60) (x := "_law_script") (CX := fun _ => CX0) (sp := fun w => spLaw (K w.params)) hn (by decide) hdf ⟨rfl, by decide, by decide⟩ hY F (fun _ _ a ns hl _ hS => ⟨a, ns, rfl, hS, hl, fun _ => rfl⟩) fun _ _ _ _ _ z => z
end Toy
open PySem PySem.W PyProof.Rows in
set_option maxRecDepth 100000 in
set_option maxHeartbeats 0 in
theorem PySem.Challenge.cw_graincourse_k01_error_classes_holds : PySem.Challenge.rw_graincourse_k01_error_classes.Holds := by
  w_on; o_law; k_head; (case hw => w_witness2)
  k_fill
  refine Toy.walk (l := PySem.Challenge.rw_graincourse_k01_error_classes) rfl rfl (fun w h Y => PySem.W.kIn_of Y) ?F
  case F =>
    intro w mg fa h KX G hmg
    refine' Toy.all_mk KX G hmg ?a1 ?l1 ?c1 ?k1 ?a2 ?l2 ?c2 ?k2 ?a3 ?l3 ?c3 ?k3 ?a4 ?l4 ?c4 ?k4 ?a5 ?l5 ?c5 ?k5 ?a6 ?l6 ?c6 ?k6 ?a7 ?l7 ?c7 ?k7 ?a8 ?l8 ?c8 ?k8 ?z_all ?z_bool ?z_int ?z_isinstance ?z_len ?z_list ?z_range ?z_str ?z_tuple ?x_gG ?x_rG ?x_sG ?x_vG ?x_lG ?x_cG ?x_kG ?x_tG ?x_iG ?x_nG ?x_gM ?x_rM ?x_sM ?x_vM ?x_lM ?x_cM ?x_kM ?x_tM ?x_iM ?x_nM ?x_ge0 ?x_le0 ?x_me0 ?x_ie0 ?x_fe0 ?x_ce0 ?x_ke0 ?x_be0 ?x_ge1 ?x_le1 ?x_me1 ?x_ie1 ?x_fe1 ?x_ce1 ?x_ke1 ?x_be1 ?x_ge2 ?x_le2 ?x_me2 ?x_ie2 ?x_fe2 ?x_ce2 ?x_ke2 ?x_be2 ?x_ge3 ?x_le3 ?x_me3 ?x_ie3 ?x_fe3 ?x_ce3 ?x_ke3 ?x_be3 ?x_ge4 ?x_le4 ?x_me4 ?x_ie4 ?x_fe4 ?x_ce4 ?x_ke4 ?x_be4 ?x_ge5 ?x_le5 ?x_me5 ?x_ie5 ?x_fe5 ?x_ce5 ?x_ke5 ?x_be5 ?x_ge6 ?x_le6 ?x_me6 ?x_ie6 ?x_fe6 ?x_ce6 ?x_ke6 ?x_be6 ?x_ge7 ?x_le7 ?x_me7 ?x_ie7 ?x_fe7 ?x_ce7 ?x_ke7 ?x_be7 ?x_ge8 ?x_le8 ?x_me8 ?x_ie8 ?x_fe8 ?x_ce8 ?x_ke8 ?x_be8 ?x_ge9 ?x_le9 ?x_me9 ?x_ie9 ?x_fe9 ?x_ce9 ?x_ke9 ?x_be9 ?x_ge10 ?x_le10 ?x_me10 ?x_ie10 ?x_fe10 ?x_ce10 ?x_ke10 ?x_be10 ?x_ge11 ?x_le11 ?x_me11 ?x_ie11 ?x_fe11 ?x_ce11 ?x_ke11 ?x_be11 ?x_ge12 ?x_le12 ?x_me12 ?x_ie12 ?x_fe12 ?x_ce12 ?x_ke12 ?x_be12 ?x_ge13 ?x_le13 ?x_me13 ?x_ie13 ?x_fe13 ?x_ce13 ?x_ke13 ?x_be13 ?x_ge14 ?x_le14 ?x_me14 ?x_ie14 ?x_fe14 ?x_ce14 ?x_ke14 ?x_be14 ?x_ge15 ?x_le15 ?x_me15 ?x_ie15 ?x_fe15 ?x_ce15 ?x_ke15 ?x_be15 ?x_ge16 ?x_le16 ?x_me16 ?x_ie16 ?x_fe16 ?x_ce16 ?x_ke16 ?x_be16 ?x_ge17 ?x_le17 ?x_me17 ?x_ie17 ?x_fe17 ?x_ce17 ?x_ke17 ?x_be17 ?x_ge18 ?x_le18 ?x_me18 ?x_ie18 ?x_fe18 ?x_ce18 ?x_ke18 ?x_be18 ?x_ge19 ?x_le19 ?x_me19 ?x_ie19 ?x_fe19 ?x_ce19 ?x_ke19 ?x_be19 ?x_qq ?x_qG ?x_qV ?x_qM ?x_qL
    (case a1 => k_is)
    (case l1 => k_is)
    (case c1 => k_is)
    (case k1 => k_is)
    (case a2 => k_is)
    (case l2 => k_is)
    (case c2 => k_is)
    (case k2 => k_is)
    (case a3 => k_is)
    (case l3 => k_is)
    (case c3 => k_is)
    (case k3 => k_is)
    (case a4 => k_is)
    (case l4 => k_is)
    (case c4 => k_is)
    (case k4 => k_is)
    (case a5 => k_is)
    (case l5 => k_is)
    (case c5 => k_is)
    (case k5 => k_is)
    (case a6 => k_is)
    (case l6 => k_is)
    (case c6 => k_is)
    (case k6 => k_is)
    (case a7 => k_is)
    (case l7 => k_is)
    (case c7 => k_is)
    (case k7 => k_is)
    (case a8 => k_is)
    (case l8 => k_is)
    (case c8 => k_is)
    (case k8 => k_is)
    (case z_all => k_is)
    (case z_bool => k_is)
    (case z_int => k_is)
    (case z_isinstance => k_is)
    (case z_len => k_is)
    (case z_list => k_is)
    (case z_range => k_is)
    (case z_str => k_is)
    (case z_tuple => k_is)
    (case x_gG => k_is)
    (case x_rG => k_is)
    (case x_sG => k_is)
    (case x_vG => k_is)
    (case x_lG => k_is)
    (case x_cG => k_is)
    (case x_kG => k_is)
    (case x_tG => k_is)
    (case x_iG => k_is)
    (case x_nG => k_is)
    (case x_gM => k_is)
    (case x_rM => k_is)
    (case x_sM => k_is)
    (case x_vM => k_is)
    (case x_lM => k_is)
    (case x_cM => k_is)
    (case x_kM => k_is)
    (case x_tM => k_is)
    (case x_iM => k_is)
    (case x_nM => k_is)
    (case x_ge0 => k_is)
    (case x_le0 => k_is)
    (case x_me0 => decide +kernel)
    (case x_ie0 => k_is)
    (case x_fe0 => k_is)
    (case x_ce0 => k_is)
    (case x_ke0 => k_is)
    (case x_be0 => first | kernel_rfl | k_is)
    (case x_ge1 => k_is)
    (case x_le1 => k_is)
    (case x_me1 => decide +kernel)
    (case x_ie1 => k_is)
    (case x_fe1 => k_is)
    (case x_ce1 => k_is)
    (case x_ke1 => k_is)
    (case x_be1 => first | kernel_rfl | k_is)
    (case x_ge2 => k_is)
    (case x_le2 => k_is)
    (case x_me2 => decide +kernel)
    (case x_ie2 => k_is)
    (case x_fe2 => k_is)
    (case x_ce2 => k_is)
    (case x_ke2 => k_is)
    (case x_be2 => first | kernel_rfl | k_is)
    (case x_ge3 => k_is)
    (case x_le3 => k_is)
    (case x_me3 => decide +kernel)
    (case x_ie3 => k_is)
    (case x_fe3 => k_is)
    (case x_ce3 => k_is)
    (case x_ke3 => k_is)
    (case x_be3 => first | kernel_rfl | k_is)
    (case x_ge4 => k_is)
    (case x_le4 => k_is)
    (case x_me4 => decide +kernel)
    (case x_ie4 => k_is)
    (case x_fe4 => k_is)
    (case x_ce4 => k_is)
    (case x_ke4 => k_is)
    (case x_be4 => first | kernel_rfl | k_is)
    (case x_ge5 => k_is)
    (case x_le5 => k_is)
    (case x_me5 => decide +kernel)
    (case x_ie5 => k_is)
    (case x_fe5 => k_is)
    (case x_ce5 => k_is)
    (case x_ke5 => k_is)
    (case x_be5 => first | kernel_rfl | k_is)
    (case x_ge6 => k_is)
    (case x_le6 => k_is)
    (case x_me6 => decide +kernel)
    (case x_ie6 => k_is)
    (case x_fe6 => k_is)
    (case x_ce6 => k_is)
    (case x_ke6 => k_is)
    (case x_be6 => first | kernel_rfl | k_is)
    (case x_ge7 => k_is)
    (case x_le7 => k_is)
    (case x_me7 => decide +kernel)
    (case x_ie7 => k_is)
    (case x_fe7 => k_is)
    (case x_ce7 => k_is)
    (case x_ke7 => k_is)
    (case x_be7 => first | kernel_rfl | k_is)
    (case x_ge8 => k_is)
    (case x_le8 => k_is)
    (case x_me8 => decide +kernel)
    (case x_ie8 => k_is)
    (case x_fe8 => k_is)
    (case x_ce8 => k_is)
    (case x_ke8 => k_is)
    (case x_be8 => first | kernel_rfl | k_is)
    (case x_ge9 => k_is)
    (case x_le9 => k_is)
    (case x_me9 => decide +kernel)
    (case x_ie9 => k_is)
    (case x_fe9 => k_is)
    (case x_ce9 => k_is)
    (case x_ke9 => k_is)
    (case x_be9 => first | kernel_rfl | k_is)
    (case x_ge10 => k_is)
    (case x_le10 => k_is)
    (case x_me10 => decide +kernel)
    (case x_ie10 => k_is)
    (case x_fe10 => k_is)
    (case x_ce10 => k_is)
    (case x_ke10 => k_is)
    (case x_be10 => first | kernel_rfl | k_is)
    (case x_ge11 => k_is)
    (case x_le11 => k_is)
    (case x_me11 => decide +kernel)
    (case x_ie11 => k_is)
    (case x_fe11 => k_is)
    (case x_ce11 => k_is)
    (case x_ke11 => k_is)
    (case x_be11 => first | kernel_rfl | k_is)
    (case x_ge12 => k_is)
    (case x_le12 => k_is)
    (case x_me12 => decide +kernel)
    (case x_ie12 => k_is)
    (case x_fe12 => k_is)
    (case x_ce12 => k_is)
    (case x_ke12 => k_is)
    (case x_be12 => first | kernel_rfl | k_is)
    (case x_ge13 => k_is)
    (case x_le13 => k_is)
    (case x_me13 => decide +kernel)
    (case x_ie13 => k_is)
    (case x_fe13 => k_is)
    (case x_ce13 => k_is)
    (case x_ke13 => k_is)
    (case x_be13 => first | kernel_rfl | k_is)
    (case x_ge14 => k_is)
    (case x_le14 => k_is)
    (case x_me14 => decide +kernel)
    (case x_ie14 => k_is)
    (case x_fe14 => k_is)
    (case x_ce14 => k_is)
    (case x_ke14 => k_is)
    (case x_be14 => first | kernel_rfl | k_is)
    (case x_ge15 => k_is)
    (case x_le15 => k_is)
    (case x_me15 => decide +kernel)
    (case x_ie15 => k_is)
    (case x_fe15 => k_is)
    (case x_ce15 => k_is)
    (case x_ke15 => k_is)
    (case x_be15 => first | kernel_rfl | k_is)
    (case x_ge16 => k_is)
    (case x_le16 => k_is)
    (case x_me16 => decide +kernel)
    (case x_ie16 => k_is)
    (case x_fe16 => k_is)
    (case x_ce16 => k_is)
    (case x_ke16 => k_is)
    (case x_be16 => first | kernel_rfl | k_is)
    (case x_ge17 => k_is)
    (case x_le17 => k_is)
    (case x_me17 => decide +kernel)
    (case x_ie17 => k_is)
    (case x_fe17 => k_is)
    (case x_ce17 => k_is)
    (case x_ke17 => k_is)
    (case x_be17 => first | kernel_rfl | k_is)
    (case x_ge18 => k_is)
    (case x_le18 => k_is)
    (case x_me18 => decide +kernel)
    (case x_ie18 => k_is)
    (case x_fe18 => k_is)
    (case x_ce18 => k_is)
    (case x_ke18 => k_is)
    (case x_be18 => first | kernel_rfl | k_is)
    (case x_ge19 => k_is)
    (case x_le19 => k_is)
    (case x_me19 => decide +kernel)
    (case x_ie19 => k_is)
    (case x_fe19 => k_is)
    (case x_ce19 => k_is)
    (case x_ke19 => k_is)
    (case x_be19 => first | kernel_rfl | k_is)
    (case x_qq => first | kernel_rfl | k_is)
    (case x_qG => first | kernel_rfl | k_is)
    (case x_qV => first | kernel_rfl | k_is)
    (case x_qM => first | kernel_rfl | k_is)
    (case x_qL => first | kernel_rfl | k_is)


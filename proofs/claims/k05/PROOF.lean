import PyProof.Rows.All
import Wide.All
import OpenK.AllK
import Wide.FinOn
import PyProof.CollectIter
import PyProof.ListStr
import HandS.Base
import HandS.Call
import HandS.List
import HandS.Comp
import HandS.Ends
import HandS.Dict
import HandS.Iter
import HandS.Text
import HandS.Words
import HandS.WordsList
import HandS.Wide
import HandS.IsInst
import HandS.More
import HandS.Star
import HandS.Flow
import HandS.NoneIn
import HandS.StrMore
import HandS.ExcValue
import PySem.Challenge.RW_graincourse_k05_names_of_pieces
set_option Elab.async false
set_option maxRecDepth 100000
set_option exponentiation.threshold 100000
set_option linter.all false

/-! ## a, *b = a list -/
namespace StarT
open PySem PySem.Spec PyProof.Rows L2
section
variable {prog : Program} {w : World} {A : Around} {E : Value → Shared → Prop}
/-- a list's iterator that stands at k, walked to its end -/
theorem walks_rest {it l : Addr} {items : Array Value} {k n : Nat} (hne : l ≠ it) (hk : k + n = items.size) (hh : A.handled = none) :
    WalksS prog w A it [it, l] [it] (fun a b => b = a) n (fun i v => items[k + i]? = some v) (fun i s => s.heap.IsListIter it l (k + i) ∧ s.heap.IsList l items) where
  sub := fun b hb => by
    rcases List.mem_singleton.mp hb with rfl
    exact List.mem_cons_self
  grefl := fun _ => rfl
  gtrans := fun a b c h1 h2 => h2.trans h1
  frame := fun i s h' tk ⟨⟨o, e1, e2⟩, ⟨o2, e3, e4⟩⟩ _ kp => ⟨⟨o, kp it List.mem_cons_self o e1, e2⟩, ⟨o2, kp l (List.mem_cons_of_mem _ List.mem_cons_self) o2 e3, e4⟩⟩
  item := fun i s Q E hi ⟨hit, hl⟩ hQ => by
    have hlt : k + i < items.size := by omega
    refine wpAny_pyNext_list_item hit hl (x := items[k + i]) (by simp [hlt]) fun h' hit' hs => ?_
    exact hQ _ _ (by simp [hlt]) ⟨hit', hl.extBut hs.extBut hne⟩ ⟨fun b o hb e => hs.extBut b o (fun z => hb (by rw [z]; exact List.mem_singleton.mpr rfl)) e, rfl, rfl, rfl, Nat.le_refl _⟩
  done := fun s Q E ⟨hit, hl⟩ hQ => by
    refine wpAny_pyNext_list_end hh hit hl (by rw [hk]; simp) fun h' he => ?_
    exact hQ _ ⟨fun b o hb e => he b o (fun z => hb (by rw [z]; exact List.mem_singleton.mpr rfl)) e, rfl, rfl, rfl, Nat.le_refl _⟩
  self := fun i s Q E ⟨hit, _⟩ hQ => wpAny_pyIter_listiter hit hQ
theorem unpack_star {s : Shared} {l : Addr} {items : Array Value} {Q : List Value → Shared → Prop} (hh : A.handled = none) (hh1 : A.in1.handled = none) (hl : s.heap.IsList l items) (h1 : 1 ≤ items.size) (hz : items.size ≤ sizeLine)
    (hQ : ∀ (x : Value) (rest : List Value) (h' : Heap) (p : Addr) (tk : Nat) (g : Array GenState), items.toList = x :: rest → s.heap.get? p = none → (∀ b o, s.heap.get? b = some o → h'.get? b = some o) → h'.get? p = some ({ cls := .type "list", data := .seq rest.toArray } : Obj) → g = s.gens → Q [x, .ref p] { s with heap := h', toks := tk, gens := g }) :
    wpAny (model prog w) A (unpackItems (.ref l) 2 (some 1)) Q E s := by
  have hlt : l ≠ s.heap.objs.size := by obtain ⟨o, ho, _⟩ := hl; exact Nat.ne_of_lt (Heap.lt_size ho)
  unfold unpackItems
  refine wpAny_bind ?_
  unfold notIterableAtAll
  refine wpAny_bind (wpAny_specialOf hl.typeIs slot_list_iter.lookup ?_)
  refine wpAny_pure ?_
  simp only [Bool.false_eq_true, if_false]
  refine wpAny_bind (wpAny_holding (wpAny_pyIter_list hl ?_))
  refine wpAny_bind (wpAny_holding (PySem.W.kun_draw hlt 1 0 _ _ ⟨_, Heap.get?_push_size _ rfl, rfl, rfl⟩ (hl.push _) (by omega) fun h₁ hit₁ hs₁ => ?_))
  have hl₁ : h₁.IsList l items := (hl.push _).extBut hs₁.extBut hlt
  obtain ⟨x, rest, hx⟩ : ∃ x rest, items.toList = x :: rest := by
    cases e : items.toList with
    | nil => rw [← Array.length_toList, e] at h1; exact absurd h1 (by decide)
    | cons x rest => exact ⟨x, rest, rfl⟩
  have ht : List.take 1 (List.drop 0 items.toList) = [x] := by rw [hx]; rfl
  rw [ht, if_neg (by simp)]
  have hsz : s.heap.objs.size < h₁.objs.size := by
    obtain ⟨o, e, _⟩ := id hit₁
    exact Heap.lt_size e
  have kp : ∀ b o, s.heap.get? b = some o → b ≠ s.heap.objs.size := fun b o e => Nat.ne_of_lt (Heap.lt_size e)
  refine wpAny_bind (wpAny_holding (wpAny_collect_iter (n := items.size - 1) (.inr (.inr (.inl rfl))) (walks_rest hlt (k := 1) (by omega) hh1) (fun i s' h => ?_) ⟨by simpa using hit₁, hl₁⟩ (fun b hb => ?_) List.mem_cons_self (fun s' acc hm hi => ?_) (by omega)))
  · obtain ⟨⟨o, e1, e2, _⟩, _⟩ := h
    exact ⟨o, e1, e2⟩
  · rcases List.mem_cons.mp hb with e | e
    · rw [e]
      exact hsz
    · rw [List.mem_singleton.mp e]
      obtain ⟨o, e, _⟩ := hl₁
      exact Heap.lt_size e
  · have ea : acc.toList = rest := by
      have hr : rest = items.toList.drop 1 := by rw [hx]; rfl
      rw [hr]
      apply List.ext_getElem?
      intro j
      rw [List.getElem?_drop, Array.getElem?_toList, Array.getElem?_toList]
      cases ej : acc[j]? with
      | some v => exact (hi.2 j v ej).symm
      | none =>
        have h2 : acc.size ≤ j := by simpa using ej
        have h3 := hi.1
        symm
        simp
        omega
    rw [if_neg (by omega), ea]
    have et : List.take (rest.length - (2 - 1 - 1)) rest = rest := List.take_of_length_le (by omega)
    have ed : List.drop (rest.length - (2 - 1 - 1)) rest = [] := List.drop_eq_nil_of_le (by omega)
    rw [et, ed]
    have hrl : rest.length ≤ sizeLine := by
      have h3 := hi.1
      rw [← ea, Array.length_toList]
      omega
    refine wpAny_bind (wpAny_newList ?_ hrl)
    refine wpAny_pure ?_
    have hos := hm.os
    have hdr := hm.drawn
    have hgn := hm.gens
    have kall : ∀ b o, s.heap.get? b = some o → s'.heap.get? b = some o := fun b o e => hm.heap b o (fun z => kp b o e (List.mem_singleton.mp z)) (hs₁.2 b (kp b o e) |>.trans (Heap.get?_push_of_some _ e))
    have hst : s.heap.get? s'.heap.objs.size = none := by
      cases e : s.heap.get? s'.heap.objs.size with
      | none => rfl
      | some o => exact absurd (Heap.lt_size (kall _ o e)) (Nat.lt_irrefl _)
    obtain ⟨hp, g, d, tk, os⟩ := s'
    have e1 : os = s.os := hos
    have e2 : d = s.drawn := hdr
    have e3 : g = s.gens := hgn
    subst e1 e2
    exact hQ x rest _ _ tk g hx hst (fun b o e => Heap.get?_push_of_some _ (kall b o e)) (Heap.get?_push_size _ rfl) e3
end
section
variable {X : Cx} {pos ps : Pos}
/-- (t1, *t2) = a list that is not empty -/
def gStar (K : PySem.W.Frag) (g1 g2 : TG) : TG := fun v σ H Q => ∃ a x xs, v = .ref a ∧ SqL K H a (x :: xs) ∧ ∀ p, H p = none → g1 x σ (upd H p (.lst xs)) fun σ' H' => g2 (.ref p) σ' H' Q
theorem pg_star {t1 t2 : Expr} {k : Nat} {g1 g2 : TG} (hc : X.calm = true) (hc1 : X.A.in1.handled = none) (h1 : PG X t1 g1) (h2 : PG X t2 g2) (he : assignEach [t1, .Starred t2 ps] X.env = [(false, assign t1 X.env), (true, assign t2 X.env)] := by rfl) :
    PG X (.Tuple [t1, .Starred t2 ps] k pos) (gStar X.K g1 g2) := by
  refine ⟨fun pins s σ H v u Q I r hw => ?_⟩
  obtain ⟨a, x, xs, e1, hq, hw⟩ := hw
  subst e1
  cases r
  obtain ⟨its, rv, pl, hz⟩ := I.list hq
  have hl' : s.heap.IsList a its.toArray := by
    obtain ⟨o, m, e, c, d, q⟩ := pl
    exact ⟨o, e, c, m, q⟩
  have hlen := rv.length
  rw [PyProof.Rows.assign_Tuple]
  refine wpAny_bind (wpAny_standAt ?_)
  unfold unpack
  rw [he]
  refine wpAny_bind (wpAny_holding (unpack_star (I.ok.hd hc) hc1 hl' (by simp at hlen ⊢; omega) (by show its.toArray.size ≤ sizeLine; rw [List.size_toArray, ← hlen]; exact hz) fun y rest h' p tk g hy hp kk hpn hg => ?_))
  subst hg
  have hy' : its = y :: rest := by simpa using hy
  subst hy'
  cases rv with
  | cons r1 rr =>
    have hn : H p = none := I.hok.gone hp
    have I1 : Inv X pins σ (upd H p (.lst xs)) { s with heap := h', toks := tk } := I.laidN (t' := tk) kk hp hn ⟨by simp at hlen hz ⊢; omega, rest, 0, rr, hpn⟩
    refine assignInOrder_cons (thn (h1.run pins _ σ _ x y _ I1 r1 (hw p hn)) fun _ s1 ⟨σ1, H1, I2, q1⟩ => ?_)
    refine assignInOrder_cons (thn (h2.run pins s1 σ1 H1 (.ref p) (.ref p) _ I2 rfl q1) fun _ s2 ⟨σ2, H2, I3, q2⟩ => ?_)
    exact assignInOrder_nil ⟨σ2, H2, I3, q2⟩
end
end StarT

/-! ## Names: the mathematics -/
namespace NM
open PySem L2
theorem within_lt (l : List (Nat × Nat)) {c : Nat} : Unicode.within l c = true → True := fun _ => trivial
theorem lower_ascii : ∀ c, c < 128 → (Unicode.isAlpha c && !(Unicode.isUpper c || Unicode.isTitle c)) = decide (97 ≤ c ∧ c ≤ 122) := by decide +kernel
theorem islow_ascii : ∀ c, c < 128 → Unicode.isLower c = decide (97 ≤ c ∧ c ≤ 122) := by decide +kernel
theorem up_ascii : ∀ c, c < 128 → (Unicode.isUpper c || Unicode.isTitle c) = decide (65 ≤ c ∧ c ≤ 90) := by decide +kernel
theorem alpha_ascii : ∀ c, c < 128 → Unicode.isAlpha c = decide ((97 ≤ c ∧ c ≤ 122) ∨ (65 ≤ c ∧ c ≤ 90)) := by decide +kernel
theorem dig_ascii : ∀ c, c < 128 → Unicode.isDigit c = decide (48 ≤ c ∧ c ≤ 57) := by decide +kernel
theorem in_letters : ∀ c, c < 128 → (decide (c ∈ ("abcdefghijklmnopqrstuvwxyz" : Str).cps.toList)) = decide (97 ≤ c ∧ c ≤ 122) := by decide +kernel
theorem letters_lt : ∀ c ∈ ("abcdefghijklmnopqrstuvwxyz" : Str).cps.toList, c < 128 := by decide +kernel
theorem letter_iff (c : Nat) : c ∈ ("abcdefghijklmnopqrstuvwxyz" : Str).cps.toList ↔ 97 ≤ c ∧ c ≤ 122 := by
  constructor
  · intro h
    have h1 := in_letters c (letters_lt c h)
    rw [decide_eq_true h] at h1
    exact of_decide_eq_true h1.symm
  · intro h
    have h1 := in_letters c (by omega)
    rw [decide_eq_true h] at h1
    exact of_decide_eq_true h1
theorem all_list (p : Nat → Bool) (t : Str) : t.cps.all p = t.cps.toList.all p := by rw [Array.all_toList]
theorem any_list (p : Nat → Bool) (t : Str) : t.cps.any p = t.cps.toList.any p := by rw [Array.any_toList]
theorem len_list (t : Str) : t.length = t.cps.toList.length := by show t.cps.size = _; rw [Array.length_toList]
def plainP (t : Str) : Bool := Txt.isascii t && (Txt.isalpha t && (Txt.islower t && decide (((t.length : Nat) : Int) ≤ 8)))
def plainL (t : Str) : Bool := decide ((1 : Int) ≤ ((t.length : Nat) : Int)) && (decide (((t.length : Nat) : Int) ≤ 8) && (t.cps.toList.map fun c => decide (c ∈ ("abcdefghijklmnopqrstuvwxyz" : Str).cps.toList)).all id)
theorem plain_eq (t : Str) : plainP t = plainL t := by
  rw [Bool.eq_iff_iff]
  unfold plainP plainL Txt.isascii Txt.isalpha Txt.islower
  rw [all_list, all_list, any_list, any_list, len_list]
  simp only [Bool.and_eq_true, List.all_eq_true, decide_eq_true_eq, List.any_eq_true, Bool.not_eq_true', List.mem_map, id, gt_iff_lt, List.any_eq_false]
  constructor
  · rintro ⟨h1, ⟨h2, h3⟩, ⟨h4, h5⟩, h6⟩
    refine ⟨by omega, h6, ?_⟩
    rintro b ⟨c, hc, rfl⟩
    have a1 := h1 c hc
    have a2 := h3 c hc
    have a3 := h5 c hc
    rw [alpha_ascii c a1] at a2
    rw [up_ascii c a1] at a3
    have a2 := of_decide_eq_true a2
    have a4 : ¬ (65 ≤ c ∧ c ≤ 90) := fun z => a3 (decide_eq_true z)
    exact decide_eq_true ((letter_iff c).mpr (by omega))
  · rintro ⟨h1, h2, h3⟩
    have key : ∀ c ∈ t.cps.toList, 97 ≤ c ∧ c ≤ 122 := fun c hc => (letter_iff c).mp (of_decide_eq_true (h3 _ ⟨c, hc, rfl⟩))
    refine ⟨fun c hc => by have := key c hc; omega, ⟨by omega, fun c hc => ?_⟩, ⟨?_, fun c hc => ?_⟩, h2⟩
    · have := key c hc
      rw [alpha_ascii c (by omega)]
      exact decide_eq_true (by omega)
    · cases e : t.cps.toList with
      | nil => rw [e] at h1; exact absurd h1 (by decide)
      | cons c r =>
        have hc : c ∈ t.cps.toList := by rw [e]; exact List.mem_cons_self
        have := key c hc
        exact ⟨c, List.mem_cons_self, by rw [islow_ascii c (by omega)]; exact decide_eq_true this⟩
    · have := key c hc
      rw [up_ascii c (by omega)]
      simp only [decide_eq_true_eq]
      omega
def suffixP (t : Str) : Bool := if !Txt.isascii t then false else if !Txt.isdigit t then false else if Txt.startswith t "0" then false else decide (((t.length : Nat) : Int) ≤ 2)
def nums : List Str := (List.range 99).map fun i => toString ((1 : Int) + ((i : Nat) : Int))
theorem nums_good : nums.all suffixP = true := by decide +kernel
def sgn (l : List Nat) : Str := ⟨l.toArray⟩
theorem one_good : ∀ a, a < 58 → 48 ≤ a → Txt.startswith (sgn [a]) "0" = false → sgn [a] ∈ nums := by decide +kernel
theorem two_all : ((List.range 58).all fun a => (List.range 58).all fun b => !(decide (48 ≤ a) && (!Txt.startswith (sgn [a]) "0" && decide (48 ≤ b))) || decide (sgn [a, b] ∈ nums)) = true := by decide +kernel
theorem two_good (a b : Nat) (h1 : a < 58) (h2 : b < 58) (h3 : 48 ≤ a) (h4 : Txt.startswith (sgn [a]) "0" = false) (h5 : 48 ≤ b) : sgn [a, b] ∈ nums := by
  have h := List.all_eq_true.mp (List.all_eq_true.mp two_all a (List.mem_range.mpr h1)) b (List.mem_range.mpr h2)
  rw [h4, decide_eq_true h3, decide_eq_true h5] at h
  simpa using h
theorem two_start : ∀ a, a < 58 → ∀ b, b < 58 → 48 ≤ a → 48 ≤ b → Txt.startswith (sgn [a, b]) "0" = Txt.startswith (sgn [a]) "0" := by decide +kernel
theorem sgn_list (t : Str) : t = sgn t.cps.toList := by
  cases t
  rfl
theorem in_nums (t : Str) : t ∈ nums ↔ suffixP t = true := by
  constructor
  · intro h
    exact List.all_eq_true.mp nums_good t h
  · intro h
    unfold suffixP at h
    split at h
    · cases h
    rename_i h1
    split at h
    · cases h
    rename_i h2
    split at h
    · cases h
    rename_i h3
    have h4 := of_decide_eq_true h
    have a1 : Txt.isascii t = true := by simpa using h1
    have a2 : Txt.isdigit t = true := by simpa using h2
    have a3 : Txt.startswith t "0" = false := by simpa using h3
    unfold Txt.isascii at a1
    unfold Txt.isdigit at a2
    rw [all_list] at a1 a2
    rw [len_list] at a2 h4
    rw [sgn_list t] at a3 ⊢
    simp only [Bool.and_eq_true, List.all_eq_true, decide_eq_true_eq, gt_iff_lt] at a1 a2
    have key : ∀ c ∈ t.cps.toList, 48 ≤ c ∧ c ≤ 57 := fun c hc => by
      have := a2.2 c hc
      rw [dig_ascii c (a1 c hc)] at this
      exact of_decide_eq_true this
    generalize t.cps.toList = l at *
    match l, h4 with
    | [], _ => exact absurd a2.1 (by decide)
    | [a], _ =>
      have k1 := key a (by simp)
      exact one_good a (by omega) (by omega) a3
    | [a, b], _ =>
      have k1 := key a (by simp)
      have k2 := key b (by simp)
      rw [two_start a (by omega) b (by omega) (by omega) (by omega)] at a3
      exact two_good a b (by omega) (by omega) (by omega) a3 (by omega)
    | _ :: _ :: _ :: r, h => 
      simp only [List.length_cons] at h
      omega
theorem inV_nums (t : Str) : inV (.str t) (nums.map V.str) = suffixP t := by
  rw [Bool.eq_iff_iff, ← in_nums]
  unfold inV
  rw [List.any_eq_true]
  constructor
  · rintro ⟨y, hy, e⟩
    obtain ⟨u, hu, rfl⟩ := List.mem_map.mp hy
    have : u = t := by simpa [eqV] using e
    rw [← this]
    exact hu
  · intro h
    exact ⟨.str t, List.mem_map.mpr ⟨t, h, rfl⟩, by simp [eqV]⟩
end NM

namespace Toy
open PySem L2
def top (i : Nat) : Stmt := PySem.Challenge.pw_graincourse_k05_names_of_pieces.main.body.getD i (.Pass ⟨0, 0, 0, 0⟩)
abbrev s_is_plain : Stmt := top 8
abbrev s_is_suffix : Stmt := top 9
abbrev s_is_piece : Stmt := top 10
abbrev s_bag : Stmt := top 12
abbrev s_pull : Stmt := top 13
abbrev s_of : Stmt := top 14
abbrev s_same : Stmt := top 15
abbrev s_letters : Stmt := top 16
abbrev s_plain_name : Stmt := top 17
abbrev s_piece_name : Stmt := top 18
abbrev s_law : Stmt := top 19
theorem sc_is_plain : FnScope ["text"] ["text"] (defScope s_is_plain) := ⟨rfl, rfl, rfl, by decide +kernel, rfl, by decide +kernel, by decide +kernel⟩
theorem sc_is_suffix : FnScope ["text"] ["text"] (defScope s_is_suffix) := ⟨rfl, rfl, rfl, by decide +kernel, rfl, by decide +kernel, by decide +kernel⟩
theorem sc_is_piece : FnScope ["text", "word", "suffixes", "suffix"] ["text"] (defScope s_is_piece) := ⟨rfl, rfl, rfl, by decide +kernel, rfl, by decide +kernel, by decide +kernel⟩
theorem sc_bag : FnScope ["_law_script", "_law_salt", "_law_cell"] ["_law_script"] (defScope s_bag) := ⟨rfl, rfl, rfl, by decide +kernel, rfl, by decide +kernel, by decide +kernel⟩
theorem sc_pull : FnScope ["_law_bag_here", "_law_many", "_law_cell", "_law_digit", "_law_seed"] ["_law_bag_here", "_law_many"] (defScope s_pull) := ⟨rfl, rfl, rfl, by decide +kernel, rfl, by decide +kernel, by decide +kernel⟩
theorem sc_of : FnScope ["_law_bag_here", "_law_some"] ["_law_bag_here", "_law_some"] (defScope s_of) := ⟨rfl, rfl, rfl, by decide +kernel, rfl, by decide +kernel, by decide +kernel⟩
theorem sc_same : FnScope ["_law_found", "_law_due", "_law_k"] ["_law_found", "_law_due"] (defScope s_same) := ⟨rfl, rfl, rfl, by decide +kernel, rfl, by decide +kernel, by decide +kernel⟩
theorem sc_letters : FnScope [] [] (defScope s_letters) := ⟨rfl, rfl, rfl, by decide +kernel, rfl, by decide +kernel, by decide +kernel⟩
theorem sc_plain_name : FnScope ["_law_text", "_law_sign"] ["_law_text"] (defScope s_plain_name) := ⟨rfl, rfl, rfl, by decide +kernel, rfl, by decide +kernel, by decide +kernel⟩
theorem sc_piece_name : FnScope ["_law_text", "_law_parts", "_law_good", "_law_part", "_law_k"] ["_law_text"] (defScope s_piece_name) := ⟨rfl, rfl, rfl, by decide +kernel, rfl, by decide +kernel, by decide +kernel⟩
theorem sc_law : FnScope ["_law_script", "_law_bag_here", "_law_texts", "_law_turn", "_law_word", "_law_tails", "_law_text", "_law_k"] ["_law_script"] (defScope s_law) := ⟨rfl, rfl, rfl, by decide +kernel, rfl, by decide +kernel, by decide +kernel⟩
structure Df (K : PySem.W.Frag) (mg : Str → Option Value) (x : Str) (st : Stmt) (ps : List Str) (f : Addr) (fd : FuncData) : Prop where
  F : Fun K x x st f fd
  m : mg x = some (.ref f)
  b : Binds K fd ps []
structure Ad where
  f_is_plain : Addr
  fd_is_plain : FuncData
  f_is_suffix : Addr
  fd_is_suffix : FuncData
  f_is_piece : Addr
  fd_is_piece : FuncData
  f_bag : Addr
  fd_bag : FuncData
  f_pull : Addr
  fd_pull : FuncData
  f_of : Addr
  fd_of : FuncData
  f_same : Addr
  fd_same : FuncData
  f_letters : Addr
  fd_letters : FuncData
  f_plain_name : Addr
  fd_plain_name : FuncData
  f_piece_name : Addr
  fd_piece_name : FuncData
  f_law : Addr
  fd_law : FuncData
structure Txt (K : PySem.W.Frag) (mg : Str → Option Value) (A : Ad) : Prop where
  d_is_plain : Df K mg "is_plain" s_is_plain ["text"] A.f_is_plain A.fd_is_plain
  d_is_suffix : Df K mg "is_suffix" s_is_suffix ["text"] A.f_is_suffix A.fd_is_suffix
  d_is_piece : Df K mg "is_piece" s_is_piece ["text"] A.f_is_piece A.fd_is_piece
  d_bag : Df K mg "_law_bag" s_bag ["_law_script"] A.f_bag A.fd_bag
  d_pull : Df K mg "_law_pull" s_pull ["_law_bag_here", "_law_many"] A.f_pull A.fd_pull
  d_of : Df K mg "_law_of" s_of ["_law_bag_here", "_law_some"] A.f_of A.fd_of
  d_same : Df K mg "_law_same" s_same ["_law_found", "_law_due"] A.f_same A.fd_same
  d_letters : Df K mg "_law_letters" s_letters [] A.f_letters A.fd_letters
  d_plain_name : Df K mg "_law_plain_name" s_plain_name ["_law_text"] A.f_plain_name A.fd_plain_name
  d_piece_name : Df K mg "_law_piece_name" s_piece_name ["_law_text"] A.f_piece_name A.fd_piece_name
  d_law : Df K mg "law" s_law ["_law_script"] A.f_law A.fd_law
  all : mg "all" = none
  bool : mg "bool" = none
  int : mg "int" = none
  isinstance : mg "isinstance" = none
  len : mg "len" = none
  list : mg "list" = none
  range : mg "range" = none
  str : mg "str" = none
  tuple : mg "tuple" = none
  MOST_PLAYERS : ∃ t, mg "MOST_PLAYERS" = some (.int 5 t)
  MOST_STATEMENTS : ∃ t, mg "MOST_STATEMENTS" = some (.int 60 t)
  MOST_BRANCHES : ∃ t, mg "MOST_BRANCHES" = some (.int 200 t)
  MOST_PIECES : ∃ t, mg "MOST_PIECES" = some (.int 40 t)
  MOST_LETTERS : ∃ t, mg "MOST_LETTERS" = some (.int 8 t)
  MOST_SUFFIXES : ∃ t, mg "MOST_SUFFIXES" = some (.int 6 t)
  MOST_SUFFIX_DIGITS : ∃ t, mg "MOST_SUFFIX_DIGITS" = some (.int 2 t)
/-! ## Fractions: the mathematics, over Lean's own Rat -/
namespace RM
theorem num_pos {a b : Int} (h : 0 < b) : (Rat.divInt a b).num = a / ((Int.gcd a b : Nat) : Int) := by
  rw [Rat.num_divInt, Int.sign_eq_one_of_pos h, Int.one_mul, Int.gcd_comm]
theorem den_any {a b : Int} (h : b ≠ 0) : (((Rat.divInt a b).den : Nat) : Int) = ((b.natAbs : Nat) : Int) / ((Int.gcd a b : Nat) : Int) := by
  rw [Rat.den_divInt, if_neg h, Int.gcd_comm, Int.natCast_ediv]
theorem den_pos {a b : Int} (h : 0 < b) : (((Rat.divInt a b).den : Nat) : Int) = b / ((Int.gcd a b : Nat) : Int) := by
  rw [den_any (by omega), Int.natAbs_of_nonneg (by omega)]
theorem gcd_ne {a b : Int} (h : b ≠ 0) : ((Int.gcd a b : Nat) : Int) ≠ 0 := by
  have : Int.gcd a b ≠ 0 := by
    intro e
    rw [Int.gcd_eq_zero_iff] at e
    exact h e.2
  omega
theorem gcd_posi {a b : Int} (h : b ≠ 0) : 0 < ((Int.gcd a b : Nat) : Int) := by
  have := gcd_ne (a := a) h
  omega
theorem fdiv_neg_dvd {a g : Int} (hg : g ≠ 0) (h : g ∣ a) : a.fdiv (-g) = -(a / g) := by
  rw [Int.fdiv_neg hg, if_pos h, Int.fdiv_eq_ediv_of_dvd h]
theorem num_neg {a b : Int} (h : b < 0) : (Rat.divInt a b).num = a.fdiv (-((Int.gcd a b : Nat) : Int)) := by
  rw [fdiv_neg_dvd (gcd_ne (by omega)) (Int.gcd_dvd_left ..), Rat.num_divInt, Int.sign_eq_neg_one_of_neg h, Int.gcd_comm]
  rw [Int.neg_mul, Int.one_mul, Int.neg_ediv_of_dvd (Int.gcd_dvd_left ..)]
theorem den_neg {a b : Int} (h : b < 0) : (((Rat.divInt a b).den : Nat) : Int) = b.fdiv (-((Int.gcd a b : Nat) : Int)) := by
  rw [fdiv_neg_dvd (gcd_ne (by omega)) (Int.gcd_dvd_right ..), den_any (by omega), ← Int.neg_ediv_of_dvd (Int.gcd_dvd_right ..)]
  congr 1
  omega
theorem gcd_step (a b : Int) : Int.gcd b (a % b) = Int.gcd a b := by
  have h := Int.gcd_add_mul_left_right b (a % b) (a / b)
  rw [Int.emod_add_mul_ediv] at h
  rw [← h, Int.gcd_comm]
theorem add_eq (x y : Rat) : Rat.divInt (x.num * y.den + y.num * x.den) (x.den * y.den) = x + y := by
  have h := Rat.divInt_add_divInt x.num y.num (d₁ := x.den) (d₂ := y.den) (by have := x.den_nz; omega) (by have := y.den_nz; omega)
  rw [Rat.num_divInt_den, Rat.num_divInt_den] at h
  exact h.symm
theorem mul_eq (x y : Rat) : Rat.divInt (x.num * y.num) (x.den * y.den) = x * y := by
  have h := Rat.divInt_mul_divInt x.num y.num (d₁ := x.den) (d₂ := y.den)
  rw [Rat.num_divInt_den, Rat.num_divInt_den] at h
  exact h.symm
theorem den_p (x : Rat) : (0 : Int) < ((x.den : Nat) : Int) := by
  have := x.den_nz
  omega
/-- numbers below 2 ^ k -/
def Bd (k : Nat) (x : Rat) : Prop := x.num.natAbs < 2 ^ k ∧ x.den < 2 ^ k
theorem pow_le {j k : Nat} (h : j ≤ k) : 2 ^ j ≤ 2 ^ k := Nat.pow_le_pow_right (by decide) h
theorem Bd.mono {j k : Nat} {x : Rat} (b : Bd j x) (h : j ≤ k) : Bd k x := ⟨Nat.lt_of_lt_of_le b.1 (pow_le h), Nat.lt_of_lt_of_le b.2 (pow_le h)⟩
theorem div_num_le {a b : Int} (h : b ≠ 0) : (Rat.divInt a b).num.natAbs ≤ a.natAbs := by
  by_cases h1 : 0 < b
  · rw [num_pos h1]
    exact Int.natAbs_ediv_le_natAbs ..
  · rw [num_neg (by omega), fdiv_neg_dvd (gcd_ne h) (Int.gcd_dvd_left ..), Int.natAbs_neg]
    exact Int.natAbs_ediv_le_natAbs ..
theorem div_den_le {a b : Int} (h : b ≠ 0) : (Rat.divInt a b).den ≤ b.natAbs := by
  rw [Rat.den_divInt, if_neg h]
  exact Nat.div_le_self _ _
theorem Bd.div {a b : Int} {k : Nat} (h : b ≠ 0) (ha : a.natAbs < 2 ^ k) (hb : b.natAbs < 2 ^ k) : Bd k (Rat.divInt a b) :=
  ⟨Nat.lt_of_le_of_lt (div_num_le h) ha, Nat.lt_of_le_of_lt (div_den_le h) hb⟩
theorem abs_mul_lt {a b : Int} {j k : Nat} (ha : a.natAbs < 2 ^ j) (hb : b.natAbs < 2 ^ k) : (a * b).natAbs < 2 ^ (j + k) := by
  rw [Int.natAbs_mul, Nat.pow_add]
  exact Nat.mul_lt_mul'' ha hb
theorem abs_add_lt {a b : Int} {k : Nat} (ha : a.natAbs < 2 ^ k) (hb : b.natAbs < 2 ^ k) : (a + b).natAbs < 2 ^ (k + 1) := by
  rw [Nat.pow_succ]
  omega
theorem nat_abs (n : Nat) : ((n : Nat) : Int).natAbs = n := Int.natAbs_natCast n
theorem Bd.den {k : Nat} {x : Rat} (b : Bd k x) : ((x.den : Nat) : Int).natAbs < 2 ^ k := by
  rw [nat_abs]
  exact b.2
theorem cross_lt {j k : Nat} {x y : Rat} (bx : Bd j x) (bY : Bd k y) : (x.num * y.den + y.num * x.den).natAbs < 2 ^ (j + k + 1) :=
  abs_add_lt (abs_mul_lt bx.1 bY.den) (by rw [Nat.add_comm j k]; exact abs_mul_lt bY.1 bx.den)
theorem dd_ne (x y : Rat) : ((x.den : Nat) : Int) * ((y.den : Nat) : Int) ≠ 0 := Int.ne_of_gt (Int.mul_pos (den_p x) (den_p y))
theorem dd_pos (x y : Rat) : 0 < ((x.den : Nat) : Int) * ((y.den : Nat) : Int) := Int.mul_pos (den_p x) (den_p y)
theorem Bd.add {j k : Nat} {x y : Rat} (bx : Bd j x) (bY : Bd k y) : Bd (j + k + 1) (x + y) := by
  rw [← add_eq]
  exact Bd.div (dd_ne x y) (cross_lt bx bY) (Nat.lt_of_lt_of_le (abs_mul_lt bx.den bY.den) (pow_le (by omega)))
theorem Bd.mul {j k : Nat} {x y : Rat} (bx : Bd j x) (bY : Bd k y) : Bd (j + k) (x * y) := by
  rw [← mul_eq]
  exact Bd.div (dd_ne x y) (abs_mul_lt bx.1 bY.1) (abs_mul_lt bx.den bY.den)
theorem Bd.neg {k : Nat} {x : Rat} (b : Bd k x) : Bd k (-x) := by
  refine ⟨?_, ?_⟩
  · rw [Rat.neg_num, Int.natAbs_neg]
    exact b.1
  · rw [Rat.neg_den]
    exact b.2
theorem Bd.zero {k : Nat} (h : 1 ≤ k) : Bd k 0 := Bd.mono (j := 1) ⟨by decide, by decide⟩ h
theorem Bd.one {k : Nat} (h : 1 ≤ k) : Bd k 1 := Bd.mono (j := 1) ⟨by decide, by decide⟩ h
/-- sums and products from the left -/
def sumR (qs : List Rat) : Rat := qs.foldl (· + ·) 0
def mulR (qs : List Rat) : Rat := qs.foldl (· * ·) 1
theorem take_succ {α : Type} {xs : List α} {i : Nat} {x : α} (h : xs[i]? = some x) : xs.take (i + 1) = xs.take i ++ [x] := by
  rw [List.take_add_one, h]
  rfl
theorem sum_snoc (qs : List Rat) (x : Rat) : sumR (qs ++ [x]) = sumR qs + x := by
  unfold sumR
  rw [List.foldl_append]
  rfl
theorem mul_snoc (qs : List Rat) (x : Rat) : mulR (qs ++ [x]) = mulR qs * x := by
  unfold mulR
  rw [List.foldl_append]
  rfl
/-- one step of a sum whose denominator is not reduced, g a common divisor of both denominators -/
theorem part_step {n d a b g : Int} (hd : d ≠ 0) (hb : b ≠ 0) (h1 : g ∣ d) (h2 : g ∣ b) : Rat.divInt (n * (b / g) + a * (d / g)) (d * (b / g)) = Rat.divInt n d + Rat.divInt a b := by
  obtain ⟨u, rfl⟩ := h1
  obtain ⟨v, rfl⟩ := h2
  have hg : g ≠ 0 := fun z => hd (by rw [z, Int.zero_mul])
  rw [Int.mul_ediv_cancel_left _ hg, Int.mul_ediv_cancel_left _ hg, Rat.divInt_add_divInt _ _ hd hb, ← Rat.divInt_mul_left hg]
  congr 1
  · rw [Int.mul_add]
    congr 1 <;> ac_rfl
  · ac_rfl
end RM

/-! ## The law's own helpers: the bag, its draws, the comparison -/
theorem _root_.L2.Same.new {H : Hp} {p : Addr} (h : H p = none) (o : HO) : Same H (upd H p o) := fun b u q => by rw [upd_ne (ne_of_none q h)]; exact q
theorem _root_.L2.Same.set {H H' : Hp} {p : Addr} (e : Same H H') (h : H p = none) (o : HO) : Same H (upd H' p o) := fun b u q => by rw [upd_ne (ne_of_none q h)]; exact e b u q
theorem sl_small {n : Nat} (h : n ≤ 100000) : n ≤ sizeLine := Nat.le_trans h (by decide)
theorem sl_lt {n : Nat} (h : n < 100000) : n < sizeLine := Nat.lt_of_lt_of_le h (by decide)
theorem slr {n : Nat} (h : Nat.ble n 100000 = true) : n ≤ sizeLine := sl_small (Nat.le_of_ble_eq_true h)
theorem dec_t {p : Prop} [Decidable p] (h : p) : decide p = true := decide_eq_true h
def rLenK (K : PySem.W.Frag) : List V → Hp → VK → Prop := fun xs H Q => ∃ p ys, xs = [.ref p] ∧ (SqL K H p ys ∨ SqT K H p ys) ∧ Q (.int ys.length) H
def rListK (K : PySem.W.Frag) : List V → Hp → VK → Prop := fun xs H Q => ∃ p ys, xs = [.ref p] ∧ (SqL K H p ys ∨ SqT K H p ys) ∧ ∀ l, H l = none → Q (.ref l) (upd H l (.lst ys))
def rTupK (K : PySem.W.Frag) : List V → Hp → VK → Prop := fun xs H Q => ∃ p ys, xs = [.ref p] ∧ ((SqL K H p ys ∧ ∀ l, H l = none → Q (.ref l) (upd H l (.tup ys))) ∨ (SqT K H p ys ∧ Q (.ref p) H))
/-- what holds between two statements -/
theorem seq_key {t u : TS} {D : Ends} {σ : St} {H : Hp} (P : St → Hp → Prop) (h2 : ∀ σ H, P σ H → u D σ H) (h1 : (∀ σ H, P σ H → u D σ H) → t { D with nx := u D } σ H) : tSeq t u D σ H := h1 h2
/-- all but the object at b is as it was -/
def Apart (b : Addr) (H H' : Hp) : Prop := ∀ a o, a ≠ b → H a = some o → H' a = some o
theorem Apart.refl (b : Addr) (H : Hp) : Apart b H H := fun _ _ _ h => h
theorem Apart.trans {b : Addr} {H H1 H2 : Hp} (x : Apart b H H1) (y : Apart b H1 H2) : Apart b H H2 := fun a o n e => y a o n (x a o n e)
theorem _root_.L2.Same.apart {b : Addr} {H H' : Hp} (x : Same H H') : Apart b H H' := fun a o _ e => x a o e
theorem Apart.set {b : Addr} {H : Hp} (o : HO) : Apart b H (upd H b o) := fun a u n e => by rw [upd_ne n]; exact e
/-- the bag: its list of numbers l, the numbers ns, the place i, the rest c, the seed s, the count t -/
def bagL (l : Addr) (i c s t : Int) : List V := [.ref l, .int i, .int c, .int s, .int t]
structure Bag (H : Hp) (b l : Addr) : Prop where
  ex : ∃ (ns : List Int) (i c s t : Int), H b = some (.lst (bagL l i c s t)) ∧ H l = some (.lst (ns.map V.int)) ∧ 0 ≤ i ∧ 0 ≤ c ∧ 0 ≤ s ∧ s < 2147483647
theorem bag_ne {l : Addr} {i c s t : Int} {ns : List Int} : HO.lst (ns.map V.int) ≠ HO.lst (bagL l i c s t) := by
  intro e
  injection e with e
  cases ns with
  | nil => cases e
  | cons _ _ => cases e
theorem Bag.same {H H' : Hp} {b l : Addr} (x : Bag H b l) (e : Same H H') : Bag H' b l := by
  obtain ⟨ns, i, c, s, t, h1, h2, h⟩ := x.ex
  exact ⟨ns, i, c, s, t, e _ _ h1, e _ _ h2, h⟩
theorem Bag.there {H : Hp} {b l : Addr} (x : Bag H b l) : ∃ xs, H b = some (.lst xs) := by
  obtain ⟨ns, i, c, s, t, h1, _⟩ := x.ex
  exact ⟨_, h1⟩
theorem Bag.inner {H : Hp} {b l : Addr} (x : Bag H b l) : ∃ xs, H l = some (.lst xs) := by
  obtain ⟨ns, i, c, s, t, h1, h2, _⟩ := x.ex
  exact ⟨_, h2⟩
theorem Bag.new {H : Hp} {b l p : Addr} (x : Bag H b l) (h : H p = none) (o : HO) : Bag (upd H p o) b l := x.same (Same.new h o)
theorem Bag.ne {H : Hp} {b l p : Addr} (x : Bag H b l) (h : H p = none) : p ≠ b := by
  obtain ⟨_, h1⟩ := x.there
  exact (ne_of_none h1 h).symm
theorem Bag.ne2 {H : Hp} {b l p : Addr} (x : Bag H b l) (h : H p = none) : p ≠ l := by
  obtain ⟨_, h1⟩ := x.inner
  exact (ne_of_none h1 h).symm
theorem Bag.nt {H : Hp} {b l p : Addr} {xs : List V} (x : Bag H b l) (h : H p = some (.tup xs)) : p ≠ b := by
  obtain ⟨_, h1⟩ := x.there
  exact ne_of h h1 (fun z => nomatch z)
theorem Bag.upd {H : Hp} {b l p : Addr} {o : HO} (x : Bag H b l) (h1 : p ≠ b) (h2 : p ≠ l) : Bag (upd H p o) b l := by
  obtain ⟨ns, i, c, s, t, e1, e2, h⟩ := x.ex
  exact ⟨ns, i, c, s, t, by rw [upd_ne (Ne.symm h1)]; exact e1, by rw [upd_ne (Ne.symm h2)]; exact e2, h⟩
theorem Bag.put {H : Hp} {b l : Addr} {ns : List Int} {i c s t : Int} {i' c' s' t' : Int} (h1 : H b = some (.lst (bagL l i c s t))) (h2 : H l = some (.lst (ns.map V.int))) (hi : 0 ≤ i') (hc : 0 ≤ c') (hs : 0 ≤ s') (hs2 : s' < 2147483647) :
    Bag (L2.upd H b (.lst (bagL l i' c' s' t'))) b l := ⟨ns, i', c', s', t', upd_same, by rw [upd_ne (ne_of h2 h1 bag_ne)]; exact h2, hi, hc, hs, hs2⟩

def spBag (K : PySem.W.Frag) : Sp := fun vs H Q _ => ∃ (a : Addr) (ns : List Int), vs = [.ref a] ∧ SqL K H a (ns.map V.int) ∧ ns.length ≤ 63 ∧ ∀ (b l : Addr) (H' : Hp), Same H H' → H b = none → H l = none → Bag H' b l → Q (.ref b) H'
def spPull : Sp := fun vs H Q _ => ∃ (b l : Addr) (m : Int), vs = [.ref b, .int m] ∧ Bag H b l ∧ 0 < m ∧ m.natAbs < 2 ^ 200 ∧ ∀ (r : Int) (H' : Hp), 0 ≤ r → r < m → Apart b H H' → Bag H' b l → Q (.int r) H'
def spOf (K : PySem.W.Frag) : Sp := fun vs H Q _ => ∃ (b l a : Addr) (xs : List V), vs = [.ref b, .ref a] ∧ Bag H b l ∧ SqL K H a xs ∧ a ≠ b ∧ 0 < xs.length ∧ xs.length ≤ 1000 ∧ ∀ (i : Nat) (v : V) (H' : Hp), xs[i]? = some v → Apart b H H' → Bag H' b l → Q v H'

section
variable {P : Program} {w : World} {K : PySem.W.Frag} {mg : Str → Option Value} {base : Heap} {A : Ad}
theorem cut_ints (ns : List Int) (lo hi : Option Int) : ∃ ms : List Int, cutV (ns.map V.int) lo hi = ms.map V.int := by
  unfold cutV
  rw [← List.map_drop, ← List.map_take]
  exact ⟨_, rfl⟩
theorem int_at {ns : List Int} {i : Nat} {x : V} (h : (ns.map V.int)[i]? = some x) : ∃ u, x = V.int u := by
  rw [List.getElem?_map] at h
  cases e : ns[i]? with
  | none => rw [e] at h; cases h
  | some u => rw [e] at h; exact ⟨u, (Option.some.inj h).symm⟩
theorem ok_bag (T : Txt K mg A) : FnOk P w K mg base CX0 1 A.f_bag A.fd_bag ["_law_script"] (spBag K) := by
  refine T.d_bag.F.ok sc_bag (fun vs H Q E h => ?_) (fun cdv ar outer s H vs Q E hr h => ?_)
  · obtain ⟨a, ns, rfl, _⟩ := h
    rfl
  obtain ⟨a, ns, rfl, hS, h63, q⟩ := h
  refine ⟨_, (pss_cons (ps_set (i := 1) sc_bag.nd rfl (Or.inl rfl) pe_int)
    (pss_cons (ps_for PassesOwn.never rfl (pi_list (pe_slice (r := rSlL K) sl_list (pv 0) po_none (po_some pe_int))) (pg_name (i := 2) sc_bag.nd rfl (Or.inl rfl)) (pss_one (ps_set (i := 1) sc_bag.nd rfl (Or.inl rfl) (pe_op op_mod (pe_op op_add (pe_op op_add (pe_op op_mul (pv 1) pe_int) (pe_op op_mod (pv 2) pe_int)) pe_int) pe_int))))
    (pss_one (ps_ret (pe_lst (pa_cons (pe_callTy (r := rListK K) call_list_of (by rfl) T.list (by decide +kernel) (pa_cons (pe_slice (r := rSlL K) sl_list (pv 0) po_none (po_some pe_int)) pa_nil)) (pa_cons pe_int (pa_cons pe_int (pa_cons (pv 1) (pa_cons pe_int pa_nil)))))))))), ?_⟩
  refine ⟨_, rfl, 63, rfl, a, _, rfl, hS, fun p hp => ?_⟩
  refine ⟨p, rfl, ⟨_, SqL.of upd_same⟩, ?_⟩
  obtain ⟨ms, em⟩ := cut_ints ns none (some 63)
  have s1 : Same H (upd H p (.lst (cutV (ns.map V.int) none (some 63)))) := Same.new hp _
  refine for_list (xs := cutV (ns.map V.int) none (some 63)) (fun _ σ H' => ∃ (z : Int) (u : Option V), σ = [some (.ref a), some (.int z), u] ∧ 0 ≤ z ∧ z < 2147483647 ∧ H' = upd H p (.lst (cutV (ns.map V.int) none (some 63)))) ⟨3801, none, rfl, by decide, by decide, rfl⟩ ?_ ?_ ?_
  · rintro i σ H' _ ⟨z, u, _, _, _, rfl⟩
    exact SqL.of upd_same
  · rintro i x σ H' hi ⟨z, u, rfl, z0, z1, rfl⟩
    rw [em] at hi
    obtain ⟨y, rfl⟩ := int_at hi
    refine ⟨_, rfl, _, _, rfl, rfl, .inr ⟨by decide, by decide⟩, _, rfl, _, _, rfl, rfl, (by show (0 : Int) < 2147483549; decide), _, _, rfl, rfl, _, _, rfl, rfl, _, _, rfl, rfl, (by show (0 : Int) < 2147483647; decide), ?_⟩
    exact ⟨_, _, rfl, Int.emod_nonneg _ (by decide), Int.emod_lt_of_pos _ (by decide), rfl⟩
  · rintro σ H' ⟨z, u, rfl, z0, z1, rfl⟩
    refine ⟨_, rfl, 63, rfl, a, _, rfl, s1.seq hS, fun p2 hp2 => ?_⟩
    refine ⟨p2, _, rfl, .inl (SqL.of upd_same), fun l hl => ?_⟩
    refine ⟨_, rfl, (by show 5 ≤ sizeLine; decide), fun b hb => ?_⟩
    have s2 := s1.set (s1.free hp2) (.lst (cutV (ns.map V.int) none (some 63)))
    have s3 := s2.set (s2.free hl) (.lst (cutV (ns.map V.int) none (some 63)))
    have s4 := s3.set (s3.free hb) (.lst [.ref l, .int 0, .int 0, .int z, .int 0])
    refine q b l _ s4 (s3.free hb) (s2.free hl) ⟨ms, 0, 0, z, 0, upd_same, ?_, by decide, by decide, z0, z1⟩
    rw [upd_ne (ne_of_none upd_same hb), upd_same, em]
theorem ok_pull (T : Txt K mg A) : FnOk P w K mg base CX0 1 A.f_pull A.fd_pull ["_law_bag_here", "_law_many"] spPull := by
  refine T.d_pull.F.ok sc_pull (fun vs H Q E h => ?_) (fun cdv ar outer s H vs Q E hr h => ?_)
  · obtain ⟨b, l, m, rfl, _⟩ := h
    rfl
  obtain ⟨b, l, m, rfl, ⟨⟨ns, i, c, s, t, h1, h2, hi, hc, hs, hs2⟩⟩, hm, hm2, q⟩ := h
  refine ⟨_, (pss_cons (ps_if (PW.pt (pw_and (pt_cmpR op_eq (pe_ix (r := rIxL K) ix_list (pv 0) pe_int (fun _ _ => rfl)) pe_int (nomark _)) (pw_and1 (pt_cmpR op_lt (pe_ix (r := rIxL K) ix_list (pv 0) pe_int (fun _ _ => rfl)) (pe_callB (r := rLenK K) call_len_seq (by rfl) T.len (by decide +kernel) (pa_cons (pe_ix (r := rIxL K) ix_list (pv 0) pe_int (fun _ _ => rfl)) pa_nil)) (nomark _))))) (pss_cons (ps_set (i := 2) sc_pull.nd rfl (Or.inl rfl) (pe_ix (r := rIxL K) ix_list (pe_ix (r := rIxL K) ix_list (pv 0) pe_int (fun _ _ => rfl)) (pe_ix (r := rIxL K) ix_list (pv 0) pe_int (fun _ _ => rfl)) (fun _ _ => rfl)))
    (pss_cons (ps_asg (pe_op op_add (pe_ix (r := rIxL K) ix_list (pv 0) pe_int (fun _ _ => rfl)) pe_int) (pg_sub (pv 0) pe_int set_list))
    (pss_one (ps_if (pt_cmpR op_ge (pv 2) (pe_op op_pow pe_int pe_int) (nomark _)) (pss_one (ps_asg (pv 2) (pg_sub (pv 0) pe_int set_list))) (pss_one (ps_asg (pe_op op_mod (pe_op op_add (pe_op op_add (pe_op op_mul (pe_ix (r := rIxL K) ix_list (pv 0) pe_int (fun _ _ => rfl)) pe_int) (pe_op op_mul (pe_op op_mod (pv 2) pe_int) pe_int)) pe_int) pe_int) (pg_sub (pv 0) pe_int set_list))))))) pss_nil)
    (pss_cons (ps_if (pt_cmpR op_gt (pe_ix (r := rIxL K) ix_list (pv 0) pe_int (fun _ _ => rfl)) pe_int (nomark _)) (pss_cons (ps_set (i := 3) sc_pull.nd rfl (Or.inl rfl) (pe_op op_mod (pe_ix (r := rIxL K) ix_list (pv 0) pe_int (fun _ _ => rfl)) (pv 1)))
    (pss_cons (ps_asg (pe_op op_fdivW (pe_ix (r := rIxL K) ix_list (pv 0) pe_int (fun _ _ => rfl)) (pv 1)) (pg_sub (pv 0) pe_int set_list))
    (pss_one (ps_ret (pv 3))))) pss_nil)
    (pss_cons (ps_asg (pe_op op_add (pe_ix (r := rIxL K) ix_list (pv 0) pe_int (fun _ _ => rfl)) pe_int) (pg_sub (pv 0) pe_int set_list))
    (pss_cons (ps_set (i := 4) sc_pull.nd rfl (Or.inl rfl) (pe_op op_mod (pe_op op_add (pe_ix (r := rIxL K) ix_list (pv 0) pe_int (fun _ _ => rfl)) (pe_op op_mul (pe_ix (r := rIxL K) ix_list (pv 0) pe_int (fun _ _ => rfl)) pe_int)) pe_int))
    (pss_cons (ps_asg (pe_op op_mod (pe_op op_add (pe_op op_add (pe_op op_mul (pe_op op_mod (pe_op op_mul (pv 4) (pv 4)) pe_int) (pv 4)) (pe_op op_mul pe_int (pv 4))) pe_int) pe_int) (pg_sub (pv 0) pe_int set_list))
    (pss_one (ps_ret (pe_op op_mod (pe_op op_add (pe_op op_fdiv (pe_ix (r := rIxL K) ix_list (pv 0) pe_int (fun _ _ => rfl)) pe_int) (pe_op op_mul (pe_op op_mod (pe_ix (r := rIxL K) ix_list (pv 0) pe_int (fun _ _ => rfl)) pe_int) pe_int)) (pv 1))))))))), ?_⟩
  have hbL : SqL K H b (bagL l i c s t) := SqL.of h1
  have a0 : ∀ {i c s t : Int}, atI (bagL l i c s t) 0 = some (.ref l) := at_of (j := 0) rfl rfl
  have a1 : ∀ {i c s t : Int}, atI (bagL l i c s t) 1 = some (.int i) := at_of (j := 1) rfl rfl
  have a2 : ∀ {i c s t : Int}, atI (bagL l i c s t) 2 = some (.int c) := at_of (j := 2) rfl rfl
  have a3 : ∀ {i c s t : Int}, atI (bagL l i c s t) 3 = some (.int s) := at_of (j := 3) rfl rfl
  have a4 : ∀ {i c s t : Int}, atI (bagL l i c s t) 4 = some (.int t) := at_of (j := 4) rfl rfl
  refine seq_key (fun σ' H' => ∃ (i c s : Int) (u : Option V), σ' = [some (.ref b), some (.int m), u, none, none] ∧ 0 ≤ i ∧ 0 ≤ c ∧ 0 ≤ s ∧ s < 2147483647 ∧ Apart b H H' ∧ H' b = some (.lst (bagL l i c s t)) ∧ H' l = some (.lst (ns.map V.int))) ?_ (fun k => ?_)
  · rintro σ' H' ⟨i, c, s, u, rfl, hi, hc, hs, hs2, hA, h1, h2⟩
    have hbL : SqL K H' b (bagL l i c s t) := SqL.of h1
    refine seq_key (fun σ' H2 => σ' = [some (.ref b), some (.int m), u, none, none] ∧ H' = H2) ?_ (fun k => ?_)
    · rintro _ _ ⟨rfl, rfl⟩
      -- the count, the seed, the draw
      refine ⟨_, rfl, b, _, _, _, rfl, rfl, hbL, a4, _, _, rfl, rfl, _, rfl, b, _, _, _, rfl, rfl, h1, rfl, ?_⟩
      refine ⟨_, rfl, b, _, _, _, rfl, rfl, SqL.of upd_same, at_of (j := 3) rfl rfl, _, rfl, b, _, _, _, rfl, rfl, SqL.of upd_same, at_of (j := 4) rfl rfl, _, _, rfl, rfl, .inr ⟨by decide, by decide⟩, _, _, rfl, rfl, _, _, rfl, rfl, (by show (0 : Int) < 2147483647; decide), ?_⟩
      have d0 : 0 ≤ (s + (t + 1) * 7919) % 2147483647 := Int.emod_nonneg _ (by decide)
      have d1 : (s + (t + 1) * 7919) % 2147483647 < 2147483647 := Int.emod_lt_of_pos _ (by decide)
      have d2 : -(2 ^ 64) < (s + (t + 1) * 7919) % 2147483647 ∧ (s + (t + 1) * 7919) % 2147483647 < 2 ^ 64 := ⟨by omega, by omega⟩
      refine ⟨_, rfl, _, rfl, _, _, rfl, rfl, .inr d2, _, _, rfl, rfl, (by show (0 : Int) < 2147483629; decide), _, rfl, _, _, rfl, rfl, .inr d2, _, rfl, _, _, rfl, rfl, .inl ⟨by decide, by decide⟩, _, _, rfl, rfl, _, _, rfl, rfl, _, _, rfl, rfl, (by show (0 : Int) < 2147483647; decide), ?_⟩
      refine ⟨_, rfl, b, _, _, _, rfl, rfl, upd_same, rfl, ?_⟩
      refine ⟨_, rfl, b, _, _, _, rfl, rfl, SqL.of upd_same, at_of (j := 3) rfl rfl, _, _, rfl, rfl, ⟨by decide, by decide⟩, _, rfl, b, _, _, _, rfl, rfl, SqL.of upd_same, at_of (j := 3) rfl rfl, _, _, rfl, rfl, (by show (0 : Int) < 8191; decide), _, _, rfl, rfl, .inr ⟨by decide, by decide⟩, _, _, rfl, rfl, _, rfl, _, _, rfl, rfl, hm, ?_⟩
      refine q _ _ (Int.emod_nonneg _ (Int.ne_of_gt hm)) (Int.emod_lt_of_pos _ hm) ((hA.trans (Apart.set _)).trans (Apart.set _)) ?_
      refine Bag.put (i := i) (c := c) (s := s) (t := t + 1) (ns := ns) (i' := i) (c' := c) (t' := t + 1) upd_same ?_ hi hc (Int.emod_nonneg _ (by decide)) (Int.emod_lt_of_pos _ (by decide))
      rw [upd_ne (ne_of h2 h1 bag_ne)]
      exact h2
    · refine ⟨_, rfl, b, _, _, _, rfl, rfl, hbL, a2, _, _, rfl, rfl, _, rfl, ?_⟩
      refine ite2 (fun c0 => ?_) (fun c0 => ?_)
      · refine ⟨_, rfl, b, _, _, _, rfl, rfl, hbL, a2, _, rfl, _, _, rfl, rfl, hm, ?_⟩
        refine ⟨_, rfl, b, _, _, _, rfl, rfl, hbL, a2, _, rfl, _, _, rfl, rfl, wide_div hm hm2 (by decide) (by decide), _, rfl, b, _, _, _, rfl, rfl, h1, rfl, ?_⟩
        refine ⟨_, rfl, ?_⟩
        refine q _ _ (Int.emod_nonneg _ (Int.ne_of_gt hm)) (Int.emod_lt_of_pos _ hm) (hA.trans (Apart.set _)) ?_
        exact Bag.put h1 h2 hi (Int.ediv_nonneg hc (Int.le_of_lt hm)) hs hs2
      · exact k _ _ ⟨rfl, rfl⟩
  · refine ⟨_, rfl, b, _, _, _, rfl, rfl, hbL, a2, rfl, _, rfl, ?_⟩
    refine ite2 (fun c0 => ?_) (fun c0 => ?_)
    · refine ⟨_, rfl, b, _, _, _, rfl, rfl, hbL, a1, _, rfl, b, _, _, _, rfl, rfl, hbL, a0, l, _, rfl, .inl (SqL.of h2), _, _, rfl, rfl, _, rfl, ?_⟩
      refine ite2 (fun c1 => ?_) (fun c1 => ?_)
      · have c2 : i < (((ns.map V.int).length : Nat) : Int) := of_decide_eq_true c1
        rw [List.length_map] at c2
        obtain ⟨z, hz⟩ : ∃ z : Int, (ns.map V.int)[i.toNat]? = some (.int z) := by
          rw [List.getElem?_map, List.getElem?_eq_getElem (by omega)]
          exact ⟨_, rfl⟩
        refine ⟨_, rfl, b, _, _, _, rfl, rfl, hbL, a0, _, rfl, b, _, _, _, rfl, rfl, hbL, a1, l, _, _, _, rfl, rfl, SqL.of h2, at_of (j := i.toNat) (by omega) hz, ?_⟩
        refine ⟨_, rfl, b, _, _, _, rfl, rfl, hbL, a1, _, _, rfl, rfl, _, rfl, b, _, _, _, rfl, rfl, h1, rfl, ?_⟩
        have g1 : SqL K (upd H b (.lst (bagL l (i + 1) c s t))) b (bagL l (i + 1) c s t) := SqL.of upd_same
        have g2 : upd H b (.lst (bagL l (i + 1) c s t)) l = some (.lst (ns.map V.int)) := by
          rw [upd_ne (ne_of h2 h1 bag_ne)]
          exact h2
        refine ⟨_, rfl, _, _, rfl, rfl, ⟨by decide, by decide, by decide⟩, _, _, rfl, rfl, _, rfl, ?_⟩
        refine ite2 (fun c3 => ?_) (fun c3 => ?_)
        · have c4 : (10 : Int) ^ (18 : Int).toNat ≤ z := of_decide_eq_true c3
          have c5 : (0 : Int) ≤ z := Int.le_trans (by decide) c4
          refine ⟨_, rfl, _, rfl, b, _, _, _, rfl, rfl, upd_same, rfl, ?_⟩
          refine k _ _ ⟨i + 1, z, s, _, rfl, by omega, c5, hs, hs2, (Apart.set _).trans (Apart.set _), upd_same, ?_⟩
          rw [upd_ne (ne_of h2 h1 bag_ne)]
          exact g2
        · refine ⟨_, rfl, b, _, _, _, rfl, rfl, g1, a3, _, _, rfl, rfl, .inr ⟨by decide, by decide⟩, _, rfl, _, _, rfl, rfl, (by show (0 : Int) < 2147483549; decide), _, _, rfl, rfl, .inr ⟨by decide, by decide⟩, _, _, rfl, rfl, _, _, rfl, rfl, _, _, rfl, rfl, (by show (0 : Int) < 2147483647; decide), ?_⟩
          refine ⟨_, rfl, b, _, _, _, rfl, rfl, upd_same, rfl, ?_⟩
          refine k _ _ ⟨i + 1, c, _, _, rfl, by omega, hc, Int.emod_nonneg _ (by decide), Int.emod_lt_of_pos _ (by decide), (Apart.set _).trans (Apart.set _), upd_same, ?_⟩
          rw [upd_ne (ne_of h2 h1 bag_ne)]
          exact g2
      · exact k _ _ ⟨i, c, s, _, rfl, hi, hc, hs, hs2, Apart.refl b H, h1, h2⟩
    · exact k _ _ ⟨i, c, s, _, rfl, hi, hc, hs, hs2, Apart.refl b H, h1, h2⟩
theorem Apart.seq {K : PySem.W.Frag} {b a : Addr} {H H' : Hp} {xs : List V} (e : Apart b H H') (n : a ≠ b) (h : SqL K H a xs) : SqL K H' a xs := by
  rcases h with (h | ⟨o, h⟩) | h
  · exact .inl (.inl (e _ _ n h))
  · exact .inl (.inr ⟨o, e _ _ n h⟩)
  · exact .inr h
theorem ok_of (T : Txt K mg A) : FnOk P w K mg base CX0 2 A.f_of A.fd_of ["_law_bag_here", "_law_some"] (spOf K) := by
  refine T.d_of.F.ok sc_of (fun vs H Q E h => ?_) (fun cdv ar outer s H vs Q E hr h => ?_)
  · obtain ⟨b, l, a, xs, rfl, _⟩ := h
    rfl
  obtain ⟨b, l, a, xs, rfl, hB, hS, hn, h0, h1, q⟩ := h
  refine ⟨_, (pss_one (ps_ret (pe_ix (r := rIx K) ix_seq (pv 1) (pe_call (ok_pull T) (hr.mono (by decide)) rfl T.d_pull.m T.d_pull.F.kp T.d_pull.b .nil pass0 (pa_cons (pv 0) (pa_cons (pe_callB (r := rLenK K) call_len_seq (by rfl) T.len (by decide +kernel) (pa_cons (pv 1) pa_nil)) pa_nil))) (fun _ _ => rfl)))), ?_⟩
  refine ⟨_, rfl, _, rfl, _, rfl, a, _, rfl, .inl hS, b, l, _, rfl, hB, by omega, Nat.lt_of_le_of_lt (show ((xs.length : Nat) : Int).natAbs ≤ 1000 by omega) (by decide), fun r H' r0 r1 ap bg => ?_⟩
  have hi : r.toNat < xs.length := by omega
  refine .inl ⟨a, _, _, _, rfl, rfl, ap.seq hn hS, at_of (j := r.toNat) (by omega) (List.getElem?_eq_getElem hi), ?_⟩
  exact q r.toNat _ H' (List.getElem?_eq_getElem hi) ap bg

/-! ### the comparison -/
/-- two flat values are one -/
def Flat : V → Prop
  | .non => True
  | .bl _ => True
  | .int _ => True
  | .str _ => True
  | _ => False
/-- x and y hold the same data, at most n lists one in another -/
def EqD (K : PySem.W.Frag) (H : Hp) : Nat → V → V → Prop
  | 0, x, y => x = y ∧ Flat x
  | n + 1, x, y => (x = y ∧ Flat x) ∨ (∃ (a b : Addr) (xs ys : List V), x = .ref a ∧ y = .ref b ∧ H a = some (.lst xs) ∧ H b = some (.lst ys) ∧ Paired (EqD K H n) xs ys ∧ xs.length ≤ 100000) ∨
    (∃ (a b : Addr) (xs ys : List V), x = .ref a ∧ y = .ref b ∧ H a = some (.tup xs) ∧ H b = some (.tup ys) ∧ Paired (EqD K H n) xs ys ∧ xs.length ≤ 100000)
theorem EqD.flat {K : PySem.W.Frag} {H : Hp} {x : V} (h : Flat x) : ∀ {n : Nat}, EqD K H n x x
  | 0 => ⟨rfl, h⟩
  | _ + 1 => .inl ⟨rfl, h⟩
theorem paired_imp {α β : Type} {R S : α → β → Prop} (f : ∀ a b, R a b → S a b) : ∀ {xs : List α} {ys : List β}, Paired R xs ys → Paired S xs ys
  | _, _, .nil => .nil
  | _, _, .cons h t => .cons (f _ _ h) (paired_imp f t)
theorem EqD.mono {K : PySem.W.Frag} {H H' : Hp} (e : Same H H') : ∀ {n : Nat} {x y : V}, EqD K H n x y → EqD K H' n x y
  | 0, _, _, h => h
  | n + 1, x, y, h => by
    rcases h with h | ⟨a, b, xs, ys, h1, h2, h3, h4, h5, h6⟩ | ⟨a, b, xs, ys, h1, h2, h3, h4, h5, h6⟩
    · exact .inl h
    · exact .inr (.inl ⟨a, b, xs, ys, h1, h2, e _ _ h3, e _ _ h4, paired_imp (fun _ _ z => EqD.mono e z) h5, h6⟩)
    · exact .inr (.inr ⟨a, b, xs, ys, h1, h2, e _ _ h3, e _ _ h4, paired_imp (fun _ _ z => EqD.mono e z) h5, h6⟩)
theorem paired_len {α β : Type} {R : α → β → Prop} : ∀ {xs : List α} {ys : List β}, Paired R xs ys → xs.length = ys.length
  | _, _, .nil => rfl
  | _, _, .cons _ t => congrArg (· + 1) (paired_len t)
theorem paired_at {α β : Type} {R : α → β → Prop} : ∀ {xs : List α} {ys : List β} {i : Nat} {y : β}, Paired R xs ys → ys[i]? = some y → ∃ x, xs[i]? = some x ∧ R x y
  | _, _, _, _, .nil, e => by cases e
  | x :: _, _, 0, _, .cons r _, e => by cases e; exact ⟨x, rfl, r⟩
  | _, _, i + 1, y, .cons _ t, e => by
    obtain ⟨x, h1, h2⟩ := paired_at (i := i) (y := y) t (by simpa using e)
    exact ⟨x, by simpa using h1, h2⟩
def spSame (K : PySem.W.Frag) (n : Nat) : Sp := fun vs H Q _ => ∃ (x y : V), vs = [x, y] ∧ EqD K H n x y ∧ ∀ (H' : Hp), Same H H' → Q (.bl true) H'
theorem kt_lt {t : String} {b : Bool} (h1 : kitB t "list" = some false) (h2 : kitB t "tuple" = some b) : PySem.W.kitAny K (.type t) [.type "list", .type "tuple"] = some b :=
  kitAny_cons (kit_ty h1) (fun _ => by
    cases b with
    | true => exact kitAny_cons (kit_ty h2) (fun z => nomatch z) (fun _ => rfl)
    | false => exact kitAny_cons (kit_ty h2) (fun _ => kitAny_nil) (fun z => nomatch z)) (fun z => nomatch z)
theorem kt_l : PySem.W.kitAny K (.type "list") [.type "list", .type "tuple"] = some true := kitAny_cons (b := true) (kit_ty (by decide +kernel)) (fun z => Bool.noConfusion z) (fun _ => rfl)
theorem kt_t : PySem.W.kitAny K (.type "tuple") [.type "list", .type "tuple"] = some true := kt_lt (by decide +kernel) (by decide +kernel)
theorem cls2 : Paired ClsV [V.ty "list", V.ty "tuple"] [Value.type "list", Value.type "tuple"] := .cons (.ty _) (.cons (.ty _) .nil)
theorem isi_flat {v : V} (h : Flat v) (hn : v ≠ .non) : ∃ (t : String) (a b c : Bool), (∀ H, TyX K H v (.type t)) ∧ kitB t "list" = some false ∧ kitB t "tuple" = some false ∧ kitB t "bool" = some a ∧ kitB t "int" = some b ∧ kitB t "str" = some c := by
  cases v with
  | non => exact absurd rfl hn
  | bl b => exact ⟨"bool", true, true, false, fun _ => .base (.bl b), by decide +kernel, by decide +kernel, by decide +kernel, by decide +kernel, by decide +kernel⟩
  | int i => exact ⟨"int", false, true, false, fun _ => .base (.int i), by decide +kernel, by decide +kernel, by decide +kernel, by decide +kernel, by decide +kernel⟩
  | str x => exact ⟨"str", false, false, true, fun _ => .base (.str x), by decide +kernel, by decide +kernel, by decide +kernel, by decide +kernel, by decide +kernel⟩
  | byt _ => exact h.elim
  | flt _ => exact h.elim
  | ref _ => exact h.elim
  | ty _ => exact h.elim
theorem scal_flat {v : V} (h : Flat v) : scal v v = true := by
  cases v <;> first | rfl | exact h.elim
theorem ne_bl (a : Bool) : (!decide (V.bl a = V.bl a)) = false := by rw [decide_eq_true rfl]; rfl
theorem ok_same_step (T : Txt K mg A) (n : Nat) (G : ∀ m, n = m + 1 → FnOk P w K mg base CX0 n A.f_same A.fd_same ["_law_found", "_law_due"] (spSame K m)) : FnOk P w K mg base CX0 (n + 1) A.f_same A.fd_same ["_law_found", "_law_due"] (spSame K n) := by
  refine T.d_same.F.ok sc_same (fun vs H Q E h => ?_) (fun cdv ar outer s H vs Q E hr h => ?_)
  · obtain ⟨x, y, rfl, _⟩ := h
    rfl
  obtain ⟨x, y, rfl, hE, q⟩ := h
  by_cases hf : Flat x ∧ x = y
  · obtain ⟨hf, rfl⟩ := hf
    have G : FnOk P w K mg base CX0 n A.f_same A.fd_same ["_law_found", "_law_due"] (fun _ _ _ _ => False) := ⟨fun _ _ _ _ h => h.elim, fun _ _ _ _ _ _ _ _ _ _ _ _ _ h => h.elim⟩
    refine ⟨_, (pss_cons (ps_if (PW.pt (pw_or (pt_cmpR op_isN (pv 1) pe_non (nomark _)) (pw_or1 (pt_cmpR op_isN (pv 0) pe_non (nomark _))))) (pss_one (ps_ret (pe_and (pe_cmpR op_isN (pv 0) pe_non (nomark _)) (pe_one (pe_cmpR op_isN (pv 1) pe_non (nomark _)))))) pss_nil)
    (pss_cons (ps_if (pt_val (pe_callB (r := rIsiT K) call_isiT (by rfl) T.isinstance (by decide +kernel) (pa_cons (pv 1) (pa_cons (pe_tup (pa_cons (pe_bltn (v := .ty "list") (u := .type "list") (by rfl) T.list (by decide +kernel) rfl) (pa_cons (pe_bltn (v := .ty "tuple") (u := .type "tuple") (by rfl) T.tuple (by decide +kernel) rfl) pa_nil))) pa_nil)))) (pss_cons (ps_if (PW.pt (pw_or (pt_cmpR op_ne (pe_callB (r := rIsi K) call_isi (by rfl) T.isinstance (by decide +kernel) (pa_cons (pv 0) (pa_cons (pe_bltn (v := .ty "list") (u := .type "list") (by rfl) T.list (by decide +kernel) rfl) pa_nil))) (pe_callB (r := rIsi K) call_isi (by rfl) T.isinstance (by decide +kernel) (pa_cons (pv 1) (pa_cons (pe_bltn (v := .ty "list") (u := .type "list") (by rfl) T.list (by decide +kernel) rfl) pa_nil))) (nomark _)) (pw_or1 (pt_cmpR op_ne (pe_callB (r := rIsi K) call_isi (by rfl) T.isinstance (by decide +kernel) (pa_cons (pv 0) (pa_cons (pe_bltn (v := .ty "tuple") (u := .type "tuple") (by rfl) T.tuple (by decide +kernel) rfl) pa_nil))) (pe_callB (r := rIsi K) call_isi (by rfl) T.isinstance (by decide +kernel) (pa_cons (pv 1) (pa_cons (pe_bltn (v := .ty "tuple") (u := .type "tuple") (by rfl) T.tuple (by decide +kernel) rfl) pa_nil))) (nomark _))))) (pss_one (ps_ret pe_bl)) pss_nil)
    (pss_one (ps_ret (pe_and (pe_cmpR op_eq (pe_callB (r := rLenK K) call_len_seq (by rfl) T.len (by decide +kernel) (pa_cons (pv 0) pa_nil)) (pe_callB (r := rLenK K) call_len_seq (by rfl) T.len (by decide +kernel) (pa_cons (pv 1) pa_nil)) (nomark _)) (pe_one (pe_callB (r := rAll K) (cr_all rfl) (by rfl) T.all (by decide +kernel) (pa_cons (pe_lc (own := [("_law_k", 2)]) (g := gName 2) (tt := tYes) rfl sc_same.nd (pi_range1 rfl T.range (pa_cons (pe_callB (r := rLenK K) call_len_seq (by rfl) T.len (by decide +kernel) (pa_cons (pv 1) pa_nil)) pa_nil)) (blkOk_by (own := [("_law_k", 2)]) (N := ["_law_found", "_law_due", "_law_k"]) (sc := defScope s_same) (by decide +kernel)) (fun _ _ _ _ _ => (pg_name (i := 2) sc_same.nd rfl (Or.inl rfl))) (fun _ _ _ _ _ => pts_nil) (fun _ _ _ _ _ => (pe_call G hr rfl T.d_same.m T.d_same.F.kp T.d_same.b .nil pass0 (pa_cons (pe_ix (r := rIx K) ix_seq (pv 0) (pv 2) (fun _ _ => rfl)) (pa_cons (pe_ix (r := rIx K) ix_seq (pv 1) (pv 2) (fun _ _ => rfl)) pa_nil))))) pa_nil))))))) pss_nil)
    (pss_cons (ps_if (PW.pt (pw_or (pt_cmpR op_ne (pe_callB (r := rIsi K) call_isi (by rfl) T.isinstance (by decide +kernel) (pa_cons (pv 1) (pa_cons (pe_bltn (v := .ty "bool") (u := .type "bool") (by rfl) T.bool (by decide +kernel) rfl) pa_nil))) (pe_callB (r := rIsi K) call_isi (by rfl) T.isinstance (by decide +kernel) (pa_cons (pv 0) (pa_cons (pe_bltn (v := .ty "bool") (u := .type "bool") (by rfl) T.bool (by decide +kernel) rfl) pa_nil))) (nomark _)) (pw_or1 (pt_cmpR op_ne (pe_callB (r := rIsi K) call_isi (by rfl) T.isinstance (by decide +kernel) (pa_cons (pv 1) (pa_cons (pe_bltn (v := .ty "int") (u := .type "int") (by rfl) T.int (by decide +kernel) rfl) pa_nil))) (pe_callB (r := rIsi K) call_isi (by rfl) T.isinstance (by decide +kernel) (pa_cons (pv 0) (pa_cons (pe_bltn (v := .ty "int") (u := .type "int") (by rfl) T.int (by decide +kernel) rfl) pa_nil))) (nomark _))))) (pss_one (ps_ret pe_bl)) pss_nil)
    (pss_one (ps_ret (pe_and (pe_cmpR op_eq (pe_callB (r := rIsi K) call_isi (by rfl) T.isinstance (by decide +kernel) (pa_cons (pv 1) (pa_cons (pe_bltn (v := .ty "str") (u := .type "str") (by rfl) T.str (by decide +kernel) rfl) pa_nil))) (pe_callB (r := rIsi K) call_isi (by rfl) T.isinstance (by decide +kernel) (pa_cons (pv 0) (pa_cons (pe_bltn (v := .ty "str") (u := .type "str") (by rfl) T.str (by decide +kernel) rfl) pa_nil))) (nomark _)) (pe_one (pe_cmpR op_eq (pv 0) (pv 1) (nomark _))))))))), ?_⟩
    by_cases hn : x = .non
    · subst hn
      refine ⟨_, rfl, rfl, _, rfl, iteT (iteT ?_)⟩
      refine ⟨_, rfl, rfl, _, rfl, iteT ⟨_, rfl, rfl, ?_⟩⟩
      exact q _ (Same.refl H)
    · have d0 : decide (x = V.non) = false := decide_eq_false hn
      refine ⟨_, rfl, rfl, _, rfl, ?_⟩
      rw [d0]
      refine iteF ⟨_, rfl, rfl, _, rfl, ?_⟩
      rw [d0]
      refine iteF ?_
      obtain ⟨t, a, b, c, ty, k1, k2, k3, k4, k5⟩ := isi_flat (K := K) hf hn
      refine ⟨_, rfl, sl_small (by decide), fun p hp => ⟨_, p, _, _, _, false, rfl, upd_same, cls2, ty _, kt_lt k1 k2, _, rfl, iteF ?_⟩⟩
      refine ⟨_, rfl, _, _, _, _, _, rfl, .ty _, ty _, kit_ty k3, _, rfl, _, _, _, _, _, rfl, .ty _, ty _, kit_ty k3, rfl, _, rfl, ?_⟩
      rw [ne_bl]
      refine iteF ⟨_, rfl, _, _, _, _, _, rfl, .ty _, ty _, kit_ty k4, _, rfl, _, _, _, _, _, rfl, .ty _, ty _, kit_ty k4, rfl, _, rfl, ?_⟩
      rw [ne_bl]
      refine iteF ⟨_, rfl, _, _, _, _, _, rfl, .ty _, ty _, kit_ty k5, _, rfl, _, _, _, _, _, rfl, .ty _, ty _, kit_ty k5, rfl, _, rfl, ?_⟩
      rw [decide_eq_true rfl]
      refine iteT ⟨_, rfl, _, rfl, scal_flat hf, ?_⟩
      rw [decide_eq_true rfl]
      exact q _ (Same.new hp _)
  · -- two lists, or two tuples
    obtain ⟨m, rfl, b1, a, b, xs, ys, T1, rfl, rfl, hP, hl⟩ : ∃ (m : Nat), n = m + 1 ∧ ∃ (tl : Bool) (a b : Addr) (xs ys : List V) (_ : H a = some (if tl then HO.lst xs else HO.tup xs) ∧ H b = some (if tl then HO.lst ys else HO.tup ys)), x = .ref a ∧ y = .ref b ∧ Paired (EqD K H m) xs ys ∧ xs.length ≤ 100000 := by
      cases n with
      | zero => exact absurd ⟨hE.2, hE.1⟩ hf
      | succ m =>
        rcases hE with h | ⟨a, b, xs, ys, h1, h2, h3, h4, h5, h6⟩ | ⟨a, b, xs, ys, h1, h2, h3, h4, h5, h6⟩
        · exact absurd ⟨h.2, h.1⟩ hf
        · exact ⟨m, rfl, true, a, b, xs, ys, ⟨h3, h4⟩, h1, h2, h5, h6⟩
        · exact ⟨m, rfl, false, a, b, xs, ys, ⟨h3, h4⟩, h1, h2, h5, h6⟩
    obtain ⟨ha, hb⟩ := T1
    have G := G m rfl
    have hlen := paired_len hP
    have seq : ∀ {H' : Hp} {a : Addr} {xs : List V}, H' a = some (if b1 then HO.lst xs else HO.tup xs) → SqL K H' a xs ∨ SqT K H' a xs := fun {H' a xs} h => by
      cases b1 with
      | true => exact .inl (SqL.of h)
      | false => exact .inr (SqT.of h)
    have ixs : ∀ {H' : Hp} {a : Addr} {xs : List V} {i : Nat} {v : V} {Q : VK}, H' a = some (if b1 then HO.lst xs else HO.tup xs) → xs[i]? = some v → Q v H' → rIx K (.ref a) (.int (0 + (i : Int))) H' Q := fun {H' a xs i v Q} h e k => by
      cases b1 with
      | true => exact .inl ⟨a, _, _, _, rfl, rfl, SqL.of h, at_of (j := i) (by omega) e, k⟩
      | false => exact .inr (.inl ⟨a, _, _, _, rfl, rfl, SqT.of h, at_of (j := i) (by omega) e, k⟩)
    obtain ⟨t, ty, k1, k2, k3⟩ : ∃ t : String, (∀ (H' : Hp) (a : Addr) (xs : List V), H' a = some (if b1 then HO.lst xs else HO.tup xs) → TyX K H' (.ref a) (.type t)) ∧ PySem.W.kitAny K (.type t) [.type "list", .type "tuple"] = some true ∧ (∃ c, kitB t "list" = some c) ∧ (∃ c, kitB t "tuple" = some c) := by
      cases b1 with
      | true => exact ⟨"list", fun _ _ _ h => .base (.lst h), kt_l, ⟨true, by decide +kernel⟩, ⟨false, by decide +kernel⟩⟩
      | false => exact ⟨"tuple", fun _ _ _ h => .base (.tup h), kt_t, ⟨false, by decide +kernel⟩, ⟨true, by decide +kernel⟩⟩
    obtain ⟨⟨c1, k2⟩, ⟨c2, k3⟩⟩ := And.intro k2 k3
    refine ⟨_, (pss_cons (ps_if (PW.pt (pw_or (pt_cmpR op_isN (pv 1) pe_non (nomark _)) (pw_or1 (pt_cmpR op_isN (pv 0) pe_non (nomark _))))) (pss_one (ps_ret (pe_and (pe_cmpR op_isN (pv 0) pe_non (nomark _)) (pe_one (pe_cmpR op_isN (pv 1) pe_non (nomark _)))))) pss_nil)
    (pss_cons (ps_if (pt_val (pe_callB (r := rIsiT K) call_isiT (by rfl) T.isinstance (by decide +kernel) (pa_cons (pv 1) (pa_cons (pe_tup (pa_cons (pe_bltn (v := .ty "list") (u := .type "list") (by rfl) T.list (by decide +kernel) rfl) (pa_cons (pe_bltn (v := .ty "tuple") (u := .type "tuple") (by rfl) T.tuple (by decide +kernel) rfl) pa_nil))) pa_nil)))) (pss_cons (ps_if (PW.pt (pw_or (pt_cmpR op_ne (pe_callB (r := rIsi K) call_isi (by rfl) T.isinstance (by decide +kernel) (pa_cons (pv 0) (pa_cons (pe_bltn (v := .ty "list") (u := .type "list") (by rfl) T.list (by decide +kernel) rfl) pa_nil))) (pe_callB (r := rIsi K) call_isi (by rfl) T.isinstance (by decide +kernel) (pa_cons (pv 1) (pa_cons (pe_bltn (v := .ty "list") (u := .type "list") (by rfl) T.list (by decide +kernel) rfl) pa_nil))) (nomark _)) (pw_or1 (pt_cmpR op_ne (pe_callB (r := rIsi K) call_isi (by rfl) T.isinstance (by decide +kernel) (pa_cons (pv 0) (pa_cons (pe_bltn (v := .ty "tuple") (u := .type "tuple") (by rfl) T.tuple (by decide +kernel) rfl) pa_nil))) (pe_callB (r := rIsi K) call_isi (by rfl) T.isinstance (by decide +kernel) (pa_cons (pv 1) (pa_cons (pe_bltn (v := .ty "tuple") (u := .type "tuple") (by rfl) T.tuple (by decide +kernel) rfl) pa_nil))) (nomark _))))) (pss_one (ps_ret pe_bl)) pss_nil)
    (pss_one (ps_ret (pe_and (pe_cmpR op_eq (pe_callB (r := rLenK K) call_len_seq (by rfl) T.len (by decide +kernel) (pa_cons (pv 0) pa_nil)) (pe_callB (r := rLenK K) call_len_seq (by rfl) T.len (by decide +kernel) (pa_cons (pv 1) pa_nil)) (nomark _)) (pe_one (pe_callB (r := rAll K) (cr_all rfl) (by rfl) T.all (by decide +kernel) (pa_cons (pe_lc (own := [("_law_k", 2)]) (g := gName 2) (tt := tYes) rfl sc_same.nd (pi_range1 rfl T.range (pa_cons (pe_callB (r := rLenK K) call_len_seq (by rfl) T.len (by decide +kernel) (pa_cons (pv 1) pa_nil)) pa_nil)) (blkOk_by (own := [("_law_k", 2)]) (N := ["_law_found", "_law_due", "_law_k"]) (sc := defScope s_same) (by decide +kernel)) (fun _ _ _ _ _ => (pg_name (i := 2) sc_same.nd rfl (Or.inl rfl))) (fun _ _ _ _ _ => pts_nil) (fun _ _ _ _ _ => (pe_call G hr rfl T.d_same.m T.d_same.F.kp T.d_same.b .nil pass0 (pa_cons (pe_ix (r := rIx K) ix_seq (pv 0) (pv 2) (fun _ _ => rfl)) (pa_cons (pe_ix (r := rIx K) ix_seq (pv 1) (pv 2) (fun _ _ => rfl)) pa_nil))))) pa_nil))))))) pss_nil)
    (pss_cons (ps_if (PW.pt (pw_or (pt_cmpR op_ne (pe_callB (r := rIsi K) call_isi (by rfl) T.isinstance (by decide +kernel) (pa_cons (pv 1) (pa_cons (pe_bltn (v := .ty "bool") (u := .type "bool") (by rfl) T.bool (by decide +kernel) rfl) pa_nil))) (pe_callB (r := rIsi K) call_isi (by rfl) T.isinstance (by decide +kernel) (pa_cons (pv 0) (pa_cons (pe_bltn (v := .ty "bool") (u := .type "bool") (by rfl) T.bool (by decide +kernel) rfl) pa_nil))) (nomark _)) (pw_or1 (pt_cmpR op_ne (pe_callB (r := rIsi K) call_isi (by rfl) T.isinstance (by decide +kernel) (pa_cons (pv 1) (pa_cons (pe_bltn (v := .ty "int") (u := .type "int") (by rfl) T.int (by decide +kernel) rfl) pa_nil))) (pe_callB (r := rIsi K) call_isi (by rfl) T.isinstance (by decide +kernel) (pa_cons (pv 0) (pa_cons (pe_bltn (v := .ty "int") (u := .type "int") (by rfl) T.int (by decide +kernel) rfl) pa_nil))) (nomark _))))) (pss_one (ps_ret pe_bl)) pss_nil)
    (pss_one (ps_ret (pe_and (pe_cmpR op_eq (pe_callB (r := rIsi K) call_isi (by rfl) T.isinstance (by decide +kernel) (pa_cons (pv 1) (pa_cons (pe_bltn (v := .ty "str") (u := .type "str") (by rfl) T.str (by decide +kernel) rfl) pa_nil))) (pe_callB (r := rIsi K) call_isi (by rfl) T.isinstance (by decide +kernel) (pa_cons (pv 0) (pa_cons (pe_bltn (v := .ty "str") (u := .type "str") (by rfl) T.str (by decide +kernel) rfl) pa_nil))) (nomark _)) (pe_one (pe_cmpR op_eq (pv 0) (pv 1) (nomark _))))))))), ?_⟩
    refine ⟨_, rfl, rfl, _, rfl, iteF ?_⟩
    refine ⟨_, rfl, rfl, _, rfl, iteF ?_⟩
    refine ⟨_, rfl, sl_small (by decide), fun p hp => ?_⟩
    have s1 : Same H (upd H p (.tup [V.ty "list", V.ty "tuple"])) := Same.new hp _
    refine ⟨_, p, _, _, _, true, rfl, upd_same, cls2, ty _ _ _ (s1 _ _ hb), k1, _, rfl, iteT ?_⟩
    refine ⟨_, rfl, _, _, _, _, _, rfl, .ty _, ty _ _ _ (s1 _ _ ha), kit_ty k2, _, rfl, _, _, _, _, _, rfl, .ty _, ty _ _ _ (s1 _ _ hb), kit_ty k2, rfl, _, rfl, ?_⟩
    rw [ne_bl]
    refine iteF ⟨_, rfl, _, _, _, _, _, rfl, .ty _, ty _ _ _ (s1 _ _ ha), kit_ty k3, _, rfl, _, _, _, _, _, rfl, .ty _, ty _ _ _ (s1 _ _ hb), kit_ty k3, rfl, _, rfl, ?_⟩
    rw [ne_bl]
    refine iteF ⟨_, rfl, a, _, rfl, seq (s1 _ _ ha), _, rfl, b, _, rfl, seq (s1 _ _ hb), rfl, _, rfl, ?_⟩
    rw [hlen, decide_eq_true rfl]
    refine iteT ⟨_, rfl, b, _, rfl, seq (s1 _ _ hb), _, rfl, by omega, by omega, fun D hD => ?_⟩
    have s2 := s1.set (s1.free hD)
    refine lc_range (lo := 0) (n := ((ys.length : Nat) : Int).toNat) (fun i H' => Same H H' ∧ H' D = some (.lst (List.replicate i (V.bl true)))) ⟨s2 _, upd_same⟩ ?_ ?_
    · rintro i H' hi ⟨s3, hD'⟩
      have hi : i < ys.length := by omega
      obtain ⟨v, hv, he⟩ := paired_at hP (List.getElem?_eq_getElem hi)
      refine ⟨rfl, ?_⟩
      refine ⟨_, rfl, _, rfl, ixs (s3 _ _ ha) hv ⟨_, rfl, _, rfl, ixs (s3 _ _ hb) (List.getElem?_eq_getElem hi) ?_⟩⟩
      refine ⟨_, _, rfl, he.mono s3, fun H2 s4 => ?_⟩
      refine ⟨_, s4 _ _ hD', by rw [List.length_replicate]; exact sl_lt (by omega), (s3.trans s4).set (s1.free hD) _, ?_⟩
      rw [upd_same, List.replicate_succ']
    · rintro H' ⟨s3, hD'⟩
      refine ⟨D, List.replicate ys.length true, rfl, SqL.of (by rw [hD', List.map_replicate]; rfl), ?_⟩
      have e : (List.replicate ys.length true).all id = true := by
        rw [List.all_replicate]
        cases ys.length <;> rfl
      rw [e]
      exact q _ s3
theorem ok_same_at (T : Txt K mg A) : ∀ n : Nat, FnOk P w K mg base CX0 (n + 1) A.f_same A.fd_same ["_law_found", "_law_due"] (spSame K n)
  | 0 => ok_same_step T 0 fun m e => nomatch e
  | n + 1 => ok_same_step T (n + 1) fun m e => by
    have e2 : m = n := by omega
    subst e2
    exact ok_same_at T m
/-- data of at most nine levels -/
theorem ok_same (T : Txt K mg A) : FnOk P w K mg base CX0 10 A.f_same A.fd_same ["_law_found", "_law_due"] (spSame K 9) := ok_same_at T 9
end

-- CUT
/-! ## Names of pieces -/
def rJoinK (K : PySem.W.Frag) : V → List V → Hp → VK → Prop := fun x xs H Q => ∃ a p, ∃ ys : List Str, x = .str a ∧ xs = [.ref p] ∧ (SqL K H p (ys.map V.str) ∨ SqT K H p (ys.map V.str)) ∧ (ys.map (·.length)).sum + ys.length * a.length ≤ 16777216 ∧ Q (.str (Txt.join a ys)) H
theorem lc_str {x : Str} {g : TG} {tt : TT} {te : TE} {vs : List Nat} {σ : St} {H1 : Hp} {D : Addr} {Qd : Hp → Prop} (Pv : Nat → Hp → Prop) (h0 : Pv 0 (upd H1 D (.lst [])))
    (hs : ∀ i c H, x.cps[i]? = some c → Pv i H → g (.str ⟨#[c]⟩) (wipe σ vs) H fun σ2 H2 => wipe σ2 vs = wipe σ vs ∧ tt σ2 H2 fun b H3 =>
      if b = true then te σ2 H3 fun y H4 => ∃ acc, H4 D = some (.lst acc) ∧ acc.length < sizeLine ∧ Pv (i + 1) (upd H4 D (.lst (acc ++ [y]))) else Pv (i + 1) H3) (hd : ∀ H, Pv x.cps.size H → Qd H) :
    ∃ W : Nat → Nat → Hp → Prop, (∃ m, W 0 m (upd H1 D (.lst []))) ∧ ∀ i m H, W i m H →
      ((Its x).stop i H ∧ Qd H) ∨ ((Its x).go i H ∧ ∃ Nx : Hp → Prop, (∀ H', Nx H' → ∃ m', m' < m ∧ W (i + 1) m' H') ∧ ∀ y H', (Its x).yld i H y H' → g y (wipe σ vs) H' fun σ2 H2 => wipe σ2 vs = wipe σ vs ∧ tt σ2 H2 fun b H3 =>
        if b = true then te σ2 H3 fun y H4 => ∃ acc, H4 D = some (.lst acc) ∧ acc.length < sizeLine ∧ Nx (upd H4 D (.lst (acc ++ [y]))) else Nx H3) := by
  refine ⟨fun i m H => m = x.cps.size - i ∧ i ≤ x.cps.size ∧ Pv i H, ⟨x.cps.size, by simp, Nat.zero_le _, h0⟩, ?_⟩
  rintro i m H ⟨rfl, hi, p⟩
  by_cases hlt : i < x.cps.size
  · refine .inr ⟨hlt, Pv (i + 1), fun H' p' => ⟨x.cps.size - (i + 1), by omega, rfl, hlt, p'⟩, fun y H' hy => ?_⟩
    obtain ⟨e, c, ec, ev⟩ := hy
    subst e ev
    exact hs i c _ ec p
  · have e : i = x.cps.size := by omega
    subst e
    exact .inl ⟨Nat.le_refl _, hd H p⟩

theorem split_part {x y p : Str} (h : p ∈ Txt.split x y) : p.length ≤ x.length := by
  unfold Txt.split at h
  split at h
  · rw [List.mem_singleton.mp h]
    exact Nat.le_refl _
  · split at h
    · rw [List.mem_singleton.mp h]
      exact Nat.le_refl _
    · unfold Builtin.Str.partsBetween at h
      obtain ⟨⟨i, j⟩, _, rfl⟩ := List.mem_map.mp h
      show (Builtin.Str.strSub x i j).length ≤ x.length
      unfold Builtin.Str.strSub
      show (Array.extract x.cps i j).size ≤ x.cps.size
      rw [Array.size_extract]
      omega

section
variable {P : Program} {w : World} {K : PySem.W.Frag} {mg : Str → Option Value} {base : Heap} {A : Ad}
def spText (f : Str → Bool) : Sp := fun vs H Q _ => ∃ t : Str, vs = [.str t] ∧ t.length ≤ 50000 ∧ ∀ H', Same H H' → Q (.bl (f t)) H'
theorem ok_is_plain (T : Txt K mg A) : FnOk P w K mg base CX0 1 A.f_is_plain A.fd_is_plain ["text"] (spText NM.plainP) := by
  refine T.d_is_plain.F.ok sc_is_plain (fun vs H Q E h => ?_) (fun cdv ar outer s H vs Q E hr h => ?_)
  · obtain ⟨t, rfl, _⟩ := h
    rfl
  obtain ⟨t, rfl, hl, q⟩ := h
  have q := q H (Same.refl H)
  refine ⟨_, (pss_one (ps_ret (pe_and (pe_m0 PySem.F.slot_str_isascii PySem.F.type_str_isascii mt_isascii (pv 0)) (pe_and (pe_m0 PySem.F.slot_str_isalpha PySem.F.type_str_isalpha mt_isalpha (pv 0)) (pe_and (pe_m0 PySem.F.slot_str_islower PySem.F.type_str_islower mt_islower (pv 0)) (pe_one (pe_cmpR op_le (pe_callB call_len_str (by rfl) T.len (by decide +kernel) (pa_cons (pv 0) pa_nil)) (pe_glob (v := .int 8) rfl T.MOST_LETTERS.choose_spec ⟨_, rfl⟩) (nomark _)))))))), ?_⟩
  unfold NM.plainP at q
  refine ⟨_, rfl, ⟨_, rfl⟩, t, rfl, rfl, trivial, _, rfl, ?_⟩
  cases e1 : Txt.isascii t
  · rw [e1] at q
    exact iteF q
  rw [e1] at q
  refine iteT ⟨_, rfl, ⟨_, rfl⟩, t, rfl, rfl, trivial, _, rfl, ?_⟩
  cases e2 : Txt.isalpha t
  · rw [e2] at q
    exact iteF q
  rw [e2] at q
  refine iteT ⟨_, rfl, ⟨_, rfl⟩, t, rfl, rfl, trivial, _, rfl, ?_⟩
  cases e3 : Txt.islower t
  · rw [e3] at q
    exact iteF q
  rw [e3] at q
  exact iteT ⟨_, rfl, t, rfl, sl_small (Nat.le_trans hl (by decide)), _, _, rfl, rfl, q⟩
theorem ok_is_suffix (T : Txt K mg A) : FnOk P w K mg base CX0 1 A.f_is_suffix A.fd_is_suffix ["text"] (spText NM.suffixP) := by
  refine T.d_is_suffix.F.ok sc_is_suffix (fun vs H Q E h => ?_) (fun cdv ar outer s H vs Q E hr h => ?_)
  · obtain ⟨t, rfl, _⟩ := h
    rfl
  obtain ⟨t, rfl, hl, q⟩ := h
  have q := q H (Same.refl H)
  refine ⟨_, (pss_cons (ps_if (PW.pt (pw_or (pt_not (pt_val (pe_m0 PySem.F.slot_str_isascii PySem.F.type_str_isascii mt_isascii (pv 0)))) (pw_or (pt_not (pt_val (pe_m0 PySem.F.slot_str_isdigit PySem.F.type_str_isdigit mt_isdigit (pv 0)))) (pw_or1 (pt_val (pe_m1 PySem.F.slot_str_startswith PySem.F.type_str_startswith mt_startswith (pv 0) pe_str)))))) (pss_one (ps_ret pe_bl)) pss_nil)
    (pss_one (ps_ret (pe_cmpR op_le (pe_callB call_len_str (by rfl) T.len (by decide +kernel) (pa_cons (pv 0) pa_nil)) (pe_glob (v := .int 2) rfl T.MOST_SUFFIX_DIGITS.choose_spec ⟨_, rfl⟩) (nomark _))))), ?_⟩
  unfold NM.suffixP at q
  refine ⟨_, rfl, ⟨_, rfl⟩, t, rfl, rfl, trivial, _, rfl, ?_⟩
  cases e1 : Txt.isascii t
  · rw [e1] at q
    exact iteT (iteT q)
  rw [e1] at q
  refine iteF ⟨_, rfl, ⟨_, rfl⟩, t, rfl, rfl, trivial, _, rfl, ?_⟩
  cases e2 : Txt.isdigit t
  · rw [e2] at q
    exact iteT (iteT q)
  rw [e2] at q
  refine iteF ⟨_, rfl, ⟨_, rfl⟩, t, _, rfl, rfl, _, rfl, ?_⟩
  cases e3 : Txt.startswith t "0"
  · rw [e3] at q
    exact iteF ⟨_, rfl, t, rfl, sl_small (Nat.le_trans hl (by decide)), _, _, rfl, rfl, q⟩
  · rw [e3] at q
    exact iteT q
theorem ok_letters (T : Txt K mg A) : FnOk P w K mg base CX0 1 A.f_letters A.fd_letters [] (fun vs H Q _ => vs = [] ∧ Q (.str "abcdefghijklmnopqrstuvwxyz") H) := by
  refine T.d_letters.F.ok sc_letters (fun vs H Q E h => ?_) (fun cdv ar outer s H vs Q E hr h => ?_)
  · rw [h.1]
    rfl
  obtain ⟨rfl, q⟩ := h
  exact ⟨_, (pss_one (ps_ret pe_str)), q⟩
theorem bl_take {f : Nat → Bool} {l : List Nat} {i c : Nat} (h : l[i]? = some c) : ((l.take i).map fun c => V.bl (f c)) ++ [V.bl (f c)] = (l.take (i + 1)).map fun c => V.bl (f c) := by
  rw [List.take_add_one, h]
  simp

theorem ok_plain_name (T : Txt K mg A) : FnOk P w K mg base CX0 3 A.f_plain_name A.fd_plain_name ["_law_text"] (spText NM.plainL) := by
  refine T.d_plain_name.F.ok sc_plain_name (fun vs H Q E h => ?_) (fun cdv ar outer s H vs Q E hr h => ?_)
  · obtain ⟨t, rfl, _⟩ := h
    rfl
  obtain ⟨t, rfl, hl, q⟩ := h
  refine ⟨_, (pss_one (ps_ret (pe_and (pe_chain op_le op_le pe_int (pe_callB call_len_str (by rfl) T.len (by decide +kernel) (pa_cons (pv 0) pa_nil)) pe_int) (pe_one (pe_callB (r := rAll K) (cr_all rfl) (by rfl) T.all (by decide +kernel) (pa_cons (pe_lc (own := [("_law_sign", 1)]) (g := gName 1) (tt := tYes) rfl sc_plain_name.nd (pi_str (pv 0)) (blkOk_by (own := [("_law_sign", 1)]) (N := ["_law_text", "_law_sign"]) (sc := defScope s_plain_name) (by decide +kernel)) (fun _ _ _ _ _ => (pg_name (i := 1) sc_plain_name.nd rfl (Or.inl rfl))) (fun _ _ _ _ _ => pts_nil) (fun _ _ _ _ _ => (pe_cmpR op_in_sign (pv 1) (pe_call0 (ok_letters T) (hr.mono (by decide)) rfl T.d_letters.m T.d_letters.F.kp T.d_letters.b .nil pass0) (by with_unfolding_all rfl)))) pa_nil)))))), ?_⟩
  unfold NM.plainL at q
  refine ⟨_, rfl, t, rfl, sl_small (Nat.le_trans hl (by decide)), _, _, rfl, rfl, _, rfl, ?_⟩
  cases e1 : decide ((1 : Int) ≤ ((t.length : Nat) : Int))
  · rw [e1] at q
    exact iteF ⟨_, rfl, iteF (q H (Same.refl H))⟩
  rw [e1] at q
  refine iteT ⟨_, _, rfl, rfl, _, rfl, ?_⟩
  cases e2 : decide (((t.length : Nat) : Int) ≤ 8)
  · rw [e2] at q
    exact iteF (q H (Same.refl H))
  rw [e2] at q
  refine iteT ⟨_, rfl, t, rfl, fun D hD => ?_⟩
  refine lc_str (fun i H' => Same H H' ∧ H' D = some (.lst ((t.cps.toList.take i).map fun c => V.bl (decide (c ∈ ("abcdefghijklmnopqrstuvwxyz" : Str).cps.toList))))) ⟨Same.new hD _, upd_same⟩ ?_ ?_
  · rintro i c H' hi ⟨e, hD'⟩
    refine ⟨rfl, ⟨_, rfl, rfl, c, _, rfl, rfl, _, hD', ?_, e.set hD _, ?_⟩⟩
    · rw [List.length_map, List.length_take]
      have : t.cps.toList.length ≤ 50000 := by rw [← NM.len_list]; exact hl
      exact sl_lt (by have h8 := of_decide_eq_true e2; rw [NM.len_list] at h8; omega)
    · rw [upd_same, bl_take (f := fun c => decide (c ∈ ("abcdefghijklmnopqrstuvwxyz" : Str).cps.toList)) (by rw [Array.getElem?_toList]; exact hi)]
  · rintro H' ⟨e, hD'⟩
    refine ⟨D, t.cps.toList.map fun c => decide (c ∈ ("abcdefghijklmnopqrstuvwxyz" : Str).cps.toList), rfl, SqL.of ?_, q H' e⟩
    rw [hD', List.map_map]
    have : t.cps.toList.take t.cps.size = t.cps.toList := List.take_of_length_le (by simp)
    rw [this]
    rfl
def pieceP (t : Str) : Bool := (NM.plainP ((Txt.split t ".").headD Str.empty) && !decide ((6 : Int) < (((Txt.split t ".").tail.length : Nat) : Int))) && ((Txt.split t ".").tail.map NM.suffixP).all id
theorem txt_take {f : Str → Bool} {l : List Str} {i : Nat} {x : Str} (h : l[i]? = some x) : ((l.take i).map fun c => V.bl (f c)) ++ [V.bl (f x)] = (l.take (i + 1)).map fun c => V.bl (f c) := by
  rw [List.take_add_one, h]
  simp
theorem str_at {l : List Str} {i : Nat} {x : V} (h : (l.map V.str)[i]? = some x) : ∃ u, x = V.str u ∧ l[i]? = some u := by
  rw [List.getElem?_map] at h
  cases e : l[i]? with
  | none => rw [e] at h; cases h
  | some u => rw [e] at h; exact ⟨u, (Option.some.inj h).symm, rfl⟩
theorem ok_is_piece (T : Txt K mg A) : FnOk P w K mg base CX0 2 A.f_is_piece A.fd_is_piece ["text"] (spText pieceP) := by
  refine T.d_is_piece.F.ok sc_is_piece (fun vs H Q E h => ?_) (fun cdv ar outer s H vs Q E hr h => ?_)
  · obtain ⟨t, rfl, _⟩ := h
    rfl
  obtain ⟨t, rfl, hl, q⟩ := h
  refine ⟨_, (pss_cons (ps_asg (pe_split (pv 0) pe_str) (StarT.pg_star rfl hr.hd (pg_name (i := 1) sc_is_piece.nd rfl (Or.inl rfl)) (pg_name (i := 2) sc_is_piece.nd rfl (Or.inl rfl))))
    (pss_cons (ps_if (PW.pt (pw_or (pt_not (pt_val (pe_call (ok_is_plain T) (hr.mono (by decide)) rfl T.d_is_plain.m T.d_is_plain.F.kp T.d_is_plain.b .nil pass0 (pa_cons (pv 1) pa_nil)))) (pw_or1 (pt_cmpR op_gt (pe_callB (r := rLenK K) call_len_seq (by rfl) T.len (by decide +kernel) (pa_cons (pv 2) pa_nil)) (pe_glob (v := .int 6) rfl T.MOST_SUFFIXES.choose_spec ⟨_, rfl⟩) (nomark _))))) (pss_one (ps_ret pe_bl)) pss_nil)
    (pss_one (ps_ret (pe_callB (r := rAll K) (cr_all rfl) (by rfl) T.all (by decide +kernel) (pa_cons (pe_lc (own := [("suffix", 3)]) (g := gName 3) (tt := tYes) rfl sc_is_piece.nd (pi_list (pv 2)) (blkOk_by (own := [("suffix", 3)]) (N := ["text", "word", "suffixes", "suffix"]) (sc := defScope s_is_piece) (by decide +kernel)) (fun _ _ _ _ _ => (pg_name (i := 3) sc_is_piece.nd rfl (Or.inl rfl))) (fun _ _ _ _ _ => pts_nil) (fun _ _ _ _ _ => (pe_call (ok_is_suffix T) (hr.mono (by decide)) rfl T.d_is_suffix.m T.d_is_suffix.F.kp T.d_is_suffix.b .nil pass0 (pa_cons (pv 3) pa_nil)))) pa_nil)))))), ?_⟩
  have hpos : 1 ≤ (Txt.split t ".").length := PyProof.Rows.split_pos t "."
  have hle : (Txt.split t ".").length ≤ t.length + 2 := PyProof.Rows.split_le t "."
  have hpart : ∀ p ∈ Txt.split t ".", p.length ≤ 50000 := fun p hp => Nat.le_trans (split_part hp) hl
  unfold pieceP at q
  refine ⟨_, rfl, ⟨_, rfl⟩, t, _, rfl, rfl, rfl, sl_small (by omega), fun l hl0 => ?_⟩
  have e1 := Same.new hl0 (.lst ((Txt.split t ".").map V.str))
  generalize hsp : Txt.split t "." = sp at *
  match sp, hpos with
  | x :: r, _ =>
  refine ⟨l, _, _, rfl, SqL.of upd_same, fun p hp => ?_⟩
  have e2 := e1.set (e1.free hp) (.lst (r.map V.str))
  have hp2 : upd (upd H l (.lst ((x :: r).map V.str))) p (.lst (r.map V.str)) p = some (.lst (r.map V.str)) := upd_same
  generalize upd (upd H l (.lst ((x :: r).map V.str))) p (.lst (r.map V.str)) = H2 at e2 hp2
  have hpf := e1.free hp
  have hrl : r.length ≤ 50010 := by
    simp only [List.length_cons] at hle
    omega
  refine ⟨_, rfl, x, rfl, hpart x List.mem_cons_self, fun H3 e3 => ⟨_, rfl, ?_⟩⟩
  have q : ∀ H', Same H3 H' → Q (.bl ((NM.plainP x && !decide ((6 : Int) < ((r.length : Nat) : Int))) && (r.map NM.suffixP).all id)) H' := fun H' e => q H' (e2.trans (e3.trans e))
  cases c1 : NM.plainP x
  · rw [c1] at q
    exact iteT (iteT (q H3 (Same.refl H3)))
  rw [c1] at q
  refine iteF ⟨_, rfl, p, _, rfl, .inl (SqL.of (e3 _ _ hp2)), _, _, rfl, rfl, _, rfl, ?_⟩
  rw [List.length_map]
  cases c2 : decide ((6 : Int) < ((r.length : Nat) : Int))
  · rw [c2] at q
    refine iteF ⟨_, rfl, p, rfl, ⟨_, SqL.of (e3 _ _ hp2)⟩, fun D hD => ?_⟩
    refine lc_list (xs := r.map V.str) (fun i H' => Same H3 H' ∧ H' D = some (.lst ((r.take i).map fun c => V.bl (NM.suffixP c)))) ⟨Same.new hD _, upd_same⟩ (fun i H' _ h => SqL.of (h.1 _ _ (e3 _ _ hp2))) ?_ ?_
    · rintro i v H' hi ⟨e, hD'⟩
      obtain ⟨u, rfl, hu⟩ := str_at hi
      refine ⟨rfl, ⟨_, rfl, u, rfl, hpart u (List.mem_cons_of_mem _ (List.mem_of_getElem? hu)), fun H4 e4 => ⟨_, e4 _ _ hD', ?_, (e.trans e4).set hD _, ?_⟩⟩⟩
      · rw [List.length_map, List.length_take]
        exact sl_lt (by omega)
      · rw [upd_same, txt_take hu]
    · rintro H' ⟨e, hD'⟩
      refine ⟨D, r.map NM.suffixP, rfl, SqL.of ?_, q H' e⟩
      rw [hD', List.map_map, List.length_map, List.take_length]
      rfl
  · rw [c2] at q
    exact iteT (q H3 (Same.refl H3))
/-- the law's own judgement -/
def pieceL (t : Str) : Bool := (NM.plainL ((Txt.split t ".").headD Str.empty) && decide ((((Txt.split t ".").length : Nat) : Int) < 8)) && ((Txt.split t ".").tail.map NM.suffixP).all id
theorem piece_eq (t : Str) : pieceP t = pieceL t := by
  unfold pieceP pieceL
  rw [NM.plain_eq]
  have hpos : 1 ≤ (Txt.split t ".").length := PyProof.Rows.split_pos t "."
  generalize Txt.split t "." = sp at *
  match sp, hpos with
  | x :: r, _ =>
  show ((NM.plainL x && !decide ((6 : Int) < ((r.length : Nat) : Int))) && (r.map NM.suffixP).all id) = ((NM.plainL x && decide ((((r.length + 1 : Nat)) : Int) < 8)) && (r.map NM.suffixP).all id)
  cases NM.plainL x
  · rfl
  · by_cases h : (6 : Int) < ((r.length : Nat) : Int)
    · rw [decide_eq_true h, decide_eq_false (by omega)]
      rfl
    · rw [decide_eq_false h, decide_eq_true (by omega)]
      rfl
theorem ok_piece_name (T : Txt K mg A) : FnOk P w K mg base CX0 4 A.f_piece_name A.fd_piece_name ["_law_text"] (spText pieceL) := by
  refine T.d_piece_name.F.ok sc_piece_name (fun vs H Q E h => ?_) (fun cdv ar outer s H vs Q E hr h => ?_)
  · obtain ⟨t, rfl, _⟩ := h
    rfl
  obtain ⟨t, rfl, hl, q⟩ := h
  refine ⟨_, (pss_cons (ps_set (i := 1) sc_piece_name.nd rfl (Or.inl rfl) (pe_split (pv 0) pe_str))
    (pss_cons (ps_set (i := 2) sc_piece_name.nd rfl (Or.inl rfl) (pe_and (pe_call (ok_plain_name T) (hr.mono (by decide)) rfl T.d_plain_name.m T.d_plain_name.F.kp T.d_plain_name.b .nil pass0 (pa_cons (pe_ix (r := rIxL K) ix_list (pv 1) pe_int (fun _ _ => rfl)) pa_nil)) (pe_one (pe_cmpR op_lt (pe_callB (r := rLenK K) call_len_seq (by rfl) T.len (by decide +kernel) (pa_cons (pv 1) pa_nil)) pe_int (nomark _)))))
    (pss_one (ps_ret (pe_and (pv 2) (pe_one (pe_callB (r := rAll K) (cr_all rfl) (by rfl) T.all (by decide +kernel) (pa_cons (pe_lc (own := [("_law_part", 3)]) (g := gName 3) (tt := tYes) rfl sc_piece_name.nd (pi_list (pe_slice (r := rSlL K) sl_list (pv 1) (po_some pe_int) po_none)) (blkOk_by (own := [("_law_part", 3)]) (N := ["_law_text", "_law_parts", "_law_good", "_law_part", "_law_k"]) (sc := defScope s_piece_name) (by decide +kernel)) (fun _ _ _ _ _ => (pg_name (i := 3) sc_piece_name.nd rfl (Or.inl rfl))) (fun _ _ _ _ _ => pts_nil) (fun _ _ _ _ _ => (pe_cmpR (r := rIn K false) op_in_seq (pv 3) (pe_lc (own := [("_law_k", 4)]) (g := gName 4) (tt := tYes) rfl sc_piece_name.nd (pi_range2 rfl T.range (pa_cons pe_int (pa_cons pe_int pa_nil))) (blkOk_by (own := [("_law_k", 4)]) (by rfl)) (fun _ _ _ _ _ => (pg_name (i := 4) sc_piece_name.nd rfl (Or.inl rfl))) (fun _ _ _ _ _ => pts_nil) (fun _ _ _ _ _ => (pe_callTy call_str_int (by rfl) T.str (by decide +kernel) (pa_cons (pv 4) pa_nil)))) (by with_unfolding_all rfl)))) pa_nil)))))))), ?_⟩
  have hpos : 1 ≤ (Txt.split t ".").length := PyProof.Rows.split_pos t "."
  have hle : (Txt.split t ".").length ≤ t.length + 2 := PyProof.Rows.split_le t "."
  have hpart : ∀ p ∈ Txt.split t ".", p.length ≤ 50000 := fun p hp => Nat.le_trans (split_part hp) hl
  unfold pieceL at q
  refine ⟨_, rfl, ⟨_, rfl⟩, t, _, rfl, rfl, rfl, sl_small (by omega), fun l hl0 => ?_⟩
  have e1 := Same.new hl0 (.lst ((Txt.split t ".").map V.str))
  have hl1 : upd H l (.lst ((Txt.split t ".").map V.str)) l = some (.lst ((Txt.split t ".").map V.str)) := upd_same
  generalize upd H l (.lst ((Txt.split t ".").map V.str)) = H1 at e1 hl1
  generalize hsp : Txt.split t "." = sp at *
  match sp, hpos with
  | x :: r, _ =>
  have hrl : r.length ≤ 50010 := by
    simp only [List.length_cons] at hle
    omega
  dsimp only [gName]
  refine seq_key (fun σ' H' => Same H1 H' ∧ σ' = [some (.str t), some (.ref l), some (.bl (NM.plainL x && decide ((((x :: r).length : Nat) : Int) < 8))), none, none]) ?_ (fun k => ?_)
  · rintro σ' H2 ⟨e2, rfl⟩
    have q : ∀ H', Same H2 H' → Q (.bl ((NM.plainL x && decide ((((x :: r).length : Nat) : Int) < 8)) && (r.map NM.suffixP).all id)) H' := fun H' e => q H' (e1.trans (e2.trans e))
    refine ⟨_, rfl, _, rfl, ?_⟩
    cases c1 : (NM.plainL x && decide ((((x :: r).length : Nat) : Int) < 8))
    · rw [c1] at q
      exact iteF (q H2 (Same.refl H2))
    rw [c1] at q
    refine iteT ⟨_, rfl, 1, rfl, l, _, rfl, SqL.of (e2 _ _ hl1), fun p hp => ?_⟩
    have ec : cutV ((x :: r).map V.str) (some 1) none = r.map V.str := by
      unfold cutV HT.sIx
      simp only [List.map_cons, List.length_cons, List.drop_succ_cons]
      exact List.take_of_length_le (by simp)
    rw [ec]
    have e3 := Same.new hp (.lst (r.map V.str))
    have hp3 : upd H2 p (.lst (r.map V.str)) p = some (.lst (r.map V.str)) := upd_same
    generalize upd H2 p (.lst (r.map V.str)) = H3 at e3 hp3
    refine ⟨p, rfl, ⟨_, SqL.of hp3⟩, fun D hD => ?_⟩
    refine lc_list (xs := r.map V.str) (fun i H' => Same H3 H' ∧ H' D = some (.lst ((r.take i).map fun c => V.bl (NM.suffixP c)))) ⟨Same.new hD _, upd_same⟩ (fun i H' _ h => SqL.of (h.1 _ _ hp3)) ?_ ?_
    · rintro i v H' hi ⟨e, hD'⟩
      obtain ⟨u, rfl, hu⟩ := str_at hi
      refine ⟨rfl, ⟨_, rfl, 1, 100, rfl, ⟨by decide, by decide, by decide, by decide⟩, fun D2 hD2 => ?_⟩⟩
      refine lc_range (lo := 1) (n := ((100 : Int) - 1).toNat) (fun j H4 => Same H' H4 ∧ H4 D2 = some (.lst ((NM.nums.take j).map V.str))) ⟨Same.new hD2 _, upd_same⟩ ?_ ?_
      · rintro j H4 hj ⟨e4, hD4⟩
        have hj : j < 99 := hj
        refine ⟨rfl, ⟨_, rfl, _, rfl, PySem.Flt.log2_lt_of (by decide) (Nat.lt_of_lt_of_le (show (1 + ((j : Nat) : Int)).natAbs < 2 ^ 7 by omega) (RM.pow_le (by decide))), _, hD4, ?_, e4.set hD2 _, ?_⟩⟩
        · rw [List.length_map, List.length_take]
          exact sl_lt (by omega)
        · have hn : NM.nums[j]? = some (toString ((1 : Int) + ((j : Nat) : Int))) := by
            unfold NM.nums
            rw [List.getElem?_map, List.getElem?_range hj]
            rfl
          rw [upd_same, List.take_add_one, hn]
          simp
      · rintro H4 ⟨e4, hD4⟩
        have hD4 : H4 D2 = some (.lst (NM.nums.map V.str)) := hD4
        refine ⟨D2, _, rfl, .inl (SqL.of hD4), rfl, by decide +kernel, _, e4 _ _ hD', ?_, (e.trans e4).set hD _, ?_⟩
        · rw [List.length_map, List.length_take]
          exact sl_lt (by omega)
        · show upd H4 D (.lst (((r.take i).map fun c => V.bl (NM.suffixP c)) ++ [.bl (inV (.str u) (NM.nums.map V.str))])) D = _
          rw [upd_same, NM.inV_nums, txt_take hu]
    · rintro H' ⟨e, hD'⟩
      refine ⟨D, r.map NM.suffixP, rfl, SqL.of ?_, q H' (e3.trans e)⟩
      rw [hD', List.map_map, List.length_map, List.take_length]
      rfl
  · refine ⟨_, rfl, l, _, _, _, rfl, rfl, SqL.of hl1, at_of (j := 0) rfl rfl, x, rfl, hpart x List.mem_cons_self, fun H2 e2 => ⟨_, rfl, ?_⟩⟩
    cases c1 : NM.plainL x
    · rw [c1] at k
      exact iteF (k _ _ ⟨e2, rfl⟩)
    · rw [c1] at k
      refine iteT ⟨_, rfl, l, _, rfl, .inl (SqL.of (e2 _ _ hl1)), _, _, rfl, rfl, ?_⟩
      have el : (((x :: r).map V.str).length : Nat) = (x :: r).length := List.length_map ..
      rw [el]
      exact k _ _ ⟨e2, rfl⟩
end

theorem paired_of {α β : Type} {R : α → β → Prop} : ∀ {xs : List α} {ys : List β}, xs.length = ys.length → (∀ (i : Nat) x y, xs[i]? = some x → ys[i]? = some y → R x y) → Paired R xs ys
  | [], [], _, _ => .nil
  | [], _ :: _, h, _ => nomatch h
  | _ :: _, [], h, _ => nomatch h
  | x :: xs, y :: ys, h, f => .cons (f 0 x y rfl rfl) (paired_of (Nat.succ.inj h) fun i a b ha hb => f (i + 1) a b (by simpa using ha) (by simpa using hb))
section
variable {X : Cx}
theorem call_list_txt (hh : X.A.handled = none) : CallR X (.type "list") (fun xs H Q => ∃ x : Str, xs = [.str x] ∧ x.cps.size ≤ 100000 ∧ ∀ l, H l = none → Q (.ref l) (upd H l (.lst (x.cps.toList.map fun c => V.str ⟨#[c]⟩)))) := by
  intro pins s σ H xs us Q I r h
  obtain ⟨x, rfl, hz, q⟩ := h
  obtain ⟨u, rfl, rx⟩ := vals1 r
  obtain ⟨t, rfl⟩ := rx
  refine PySem.call_list_str hh x t (fun h' tk acc' c' kp e hi => ?_) (sl_small hz)
  have rv : Vals (x.cps.toList.map fun c => V.str ⟨#[c]⟩) acc'.toList := by
    refine paired_of (by rw [List.length_map, Array.length_toList, Array.length_toList, hi.1]) fun i a b ha hb => ?_
    rw [List.getElem?_map, Array.getElem?_toList] at ha
    rw [Array.getElem?_toList] at hb
    obtain ⟨c, u, ec, ev⟩ := hi.2 i b hb
    rw [ec] at ha
    cases ha
    exact ⟨u, ev⟩
  exact ⟨.ref s.heap.objs.size, _, I.laid (t' := tk) kp (Nat.le_refl _) (show ObjOk X.prog X.w _ h' _ (.lst _) from ⟨by rw [List.length_map, Array.length_toList]; exact sl_small hz, acc'.toList, c', rv, by simpa using e⟩), rfl, q _ (I.hok.fresh (Nat.le_refl _))⟩
theorem op_mulS : OpR X (binaryOp .Mult) (fun x y H Q => ∃ z n, x = .str z ∧ y = .int n ∧ MulOk z n ∧ Q (.str (Txt.mul z n)) H) := by
  intro pins s σ H x y v u Q I rx ry h
  obtain ⟨z, n, rfl, rfl, ok, q⟩ := h
  obtain ⟨t, rfl⟩ := rx
  obtain ⟨t', rfl⟩ := ry
  exact SB.mul ok fun t2 k => ⟨.str _, H, I.tok k, ⟨_, rfl⟩, q⟩
end
/-- texts of at most m signs -/
def okT (m : Nat) (xs : List V) : Bool := xs.all fun v => match v with | .str t => decide (t.length ≤ m) | _ => false
theorem okT_app {m : Nat} {xs ys : List V} (h : okT m xs = true) (g : okT m ys = true) : okT m (xs ++ ys) = true := by
  unfold okT at *
  rw [List.all_append, h, g]
  rfl
theorem okT_strs {m : Nat} {xs : List V} (h : okT m xs = true) : ∃ ys : List Str, xs = ys.map V.str ∧ ∀ y ∈ ys, y.length ≤ m := by
  induction xs with
  | nil => exact ⟨[], rfl, fun _ h => absurd h (by simp)⟩
  | cons v r ih =>
    unfold okT at h
    rw [List.all_cons, Bool.and_eq_true] at h
    obtain ⟨ys, e, hy⟩ := ih h.2
    match v, h.1 with
    | .str t, h1 =>
      refine ⟨t :: ys, by rw [e]; rfl, fun y hy2 => ?_⟩
      rcases List.mem_cons.mp hy2 with z | z
      · rw [z]; exact of_decide_eq_true h1
      · exact hy y z
theorem okT_one {m : Nat} {t : Str} (h : t.length ≤ m) : okT m [V.str t] = true := by
  unfold okT
  simp [h]
theorem okT_at {m : Nat} {xs : List V} {i : Nat} {v : V} (h : okT m xs = true) (e : xs[i]? = some v) : ∃ t, v = .str t ∧ t.length ≤ m := by
  have q := List.all_eq_true.mp h v (List.mem_of_getElem? e)
  match v, q with
  | .str t, q => exact ⟨t, rfl, of_decide_eq_true q⟩
/-- one sign out of a text -/
def spOfS : Sp := fun vs H Q _ => ∃ (b l : Addr) (z : Str), vs = [.ref b, .str z] ∧ Bag H b l ∧ 0 < z.length ∧ z.length ≤ 1000 ∧ ∀ (c : Nat) (H' : Hp), c ∈ z.cps.toList → Apart b H H' → Bag H' b l → Q (.str ⟨#[c]⟩) H'
theorem num_len : ∀ n, n < 101 → (Str.ofString (toString ((n : Nat) : Int))).length ≤ 3 := by decide +kernel
theorem join_le {a : Str} {ys : List Str} : (Txt.join a ys).length ≤ (ys.map (·.length)).sum + ys.length * a.length := by
  rw [TL.join_eq]
  exact StrLaws.join_length_le a ys
theorem sum_le {ys : List Str} {m : Nat} (h : ∀ y ∈ ys, y.length ≤ m) : (ys.map (·.length)).sum ≤ ys.length * m := by
  induction ys with
  | nil => simp
  | cons y r ih =>
    have h1 := h y List.mem_cons_self
    have h2 := ih fun z hz => h z (List.mem_cons_of_mem _ hz)
    rw [List.map_cons, List.sum_cons, List.length_cons, Nat.succ_mul]
    omega
def spLaw (K : PySem.W.Frag) : Sp := fun vs H Q _ => ∃ (a : Addr) (ns : List Int), vs = [.ref a] ∧ SqL K H a (ns.map V.int) ∧ ns.length ≤ 63 ∧ ∀ H', Q (.bl true) H'
section
variable {P : Program} {w : World} {K : PySem.W.Frag} {mg : Str → Option Value} {base : Heap} {A : Ad}
theorem ok_ofS (T : Txt K mg A) : FnOk P w K mg base CX0 2 A.f_of A.fd_of ["_law_bag_here", "_law_some"] spOfS := by
  refine T.d_of.F.ok sc_of (fun vs H Q E h => ?_) (fun cdv ar outer s H vs Q E hr h => ?_)
  · obtain ⟨b, l, z, rfl, _⟩ := h
    rfl
  obtain ⟨b, l, z, rfl, hB, h0, h1, q⟩ := h
  refine ⟨_, (pss_one (ps_ret (pe_ix (r := rIxS) ix_str (pv 1) (pe_call (ok_pull T) (hr.mono (by decide)) rfl T.d_pull.m T.d_pull.F.kp T.d_pull.b .nil pass0 (pa_cons (pv 0) (pa_cons (pe_callB call_len_str (by rfl) T.len (by decide +kernel) (pa_cons (pv 1) pa_nil)) pa_nil))) (fun _ _ => rfl)))), ?_⟩
  refine ⟨_, rfl, _, rfl, _, rfl, z, rfl, sl_small (Nat.le_trans h1 (by decide)), b, l, _, rfl, hB, by omega, Nat.lt_of_le_of_lt (show ((z.length : Nat) : Int).natAbs ≤ 1000 by omega) (by decide), fun r H' r0 r1 ap bg => ?_⟩
  have hi : r.toNat < z.cps.toList.length := by rw [Array.length_toList]; show r.toNat < z.length; omega
  have hat : atI z.cps.toList r = some z.cps.toList[r.toNat] := by
    have h := atI_nat (xs := z.cps.toList) (j := r.toNat) (List.getElem?_eq_getElem hi)
    rwa [Int.toNat_of_nonneg r0] at h
  refine ⟨z, _, _, rfl, rfl, sl_small (Nat.le_trans h1 (by decide)), hat, ?_⟩
  exact q _ H' (List.getElem_mem hi) ap bg
theorem ok_law (T : Txt K mg A) : FnOk P w K mg base CX0 12 A.f_law A.fd_law ["_law_script"] (spLaw K) := by
  refine T.d_law.F.ok sc_law (fun vs H Q E h => ?_) (fun cdv ar outer s H vs Q E hr h => ?_)
  · obtain ⟨a, ns, rfl, _⟩ := h
    rfl
  obtain ⟨a, ns, rfl, hS, h63, q⟩ := h
  refine ⟨_, (pss_cons (ps_set (i := 1) sc_law.nd rfl (Or.inr rfl) (pe_call (ok_bag T) (hr.mono (by decide)) rfl T.d_bag.m T.d_bag.F.kp T.d_bag.b .nil pass0 (pa_cons (pv 0) pa_nil)))
    (pss_cons (ps_set (i := 2) sc_law.nd rfl (Or.inl rfl) (pe_lst (pa_cons pe_str (pa_cons pe_str (pa_cons pe_str (pa_cons pe_str (pa_cons pe_str (pa_cons pe_str (pa_cons pe_str (pa_cons pe_str (pa_cons pe_str (pa_cons pe_str (pa_cons pe_str (pa_cons pe_str (pa_cons pe_str (pa_cons pe_str pa_nil))))))))))))))))
    (pss_cons (ps_set (i := 2) sc_law.nd rfl (Or.inl rfl) (pe_op op_cat (pv 2) (pe_lst (pa_cons pe_str (pa_cons pe_str pa_nil)))))
    (pss_cons (ps_set (i := 2) sc_law.nd rfl (Or.inl rfl) (pe_op op_cat (pv 2) (pe_lst (pa_cons pe_str (pa_cons pe_str (pa_cons (pe_op op_add_str pe_str (pe_op op_mulS pe_str pe_int)) (pa_cons (pe_op op_add_str pe_str (pe_op op_mulS pe_str pe_int)) (pa_cons pe_str (pa_cons pe_str (pa_cons pe_str pa_nil))))))))))
    (pss_cons (ps_for PassesOwn.never rfl (pi_range1 rfl T.range (pa_cons pe_int pa_nil)) (pg_name (i := 3) sc_law.nd rfl (Or.inl rfl)) (pss_cons (ps_set (i := 4) sc_law.nd rfl (Or.inl rfl) (pe_m1 (r := rJoinK K) PySem.F.slot_str_join PySem.F.type_str_join mt_join pe_str (pe_lc (own := [("_law_k", 7)]) (g := gName 7) (tt := tYes) rfl sc_law.nd (pi_range1 rfl T.range (pa_cons (pe_call (ok_pull T) (hr.mono (by decide)) rfl T.d_pull.m T.d_pull.F.kp T.d_pull.b .nil pass0 (pa_cons (pv 1) (pa_cons pe_int pa_nil))) pa_nil)) (blkOk_by (own := [("_law_k", 7)]) (N := ["_law_script", "_law_bag_here", "_law_texts", "_law_turn", "_law_word", "_law_tails", "_law_text", "_law_k"]) (sc := defScope s_law) (by decide +kernel)) (fun _ _ _ _ _ => (pg_name (i := 7) sc_law.nd rfl (Or.inl rfl))) (fun _ _ _ _ _ => pts_nil) (fun _ _ _ _ _ => (pe_call (ok_of T) (hr.mono (by decide)) rfl T.d_of.m T.d_of.F.kp T.d_of.b .nil pass0 (pa_cons (pv 1) (pa_cons (pe_op op_cat (pe_callTy (call_list_txt hr.hd) (by rfl) T.list (by decide +kernel) (pa_cons (pe_call0 (ok_letters T) (hr.mono (by decide)) rfl T.d_letters.m T.d_letters.F.kp T.d_letters.b .nil pass0) pa_nil)) (pe_lst (pa_cons pe_str (pa_cons pe_str (pa_cons pe_str pa_nil))))) pa_nil)))))))
    (pss_cons (ps_if (pt_cmpR op_eq (pe_call (ok_pull T) (hr.mono (by decide)) rfl T.d_pull.m T.d_pull.F.kp T.d_pull.b .nil pass0 (pa_cons (pv 1) (pa_cons pe_int pa_nil))) pe_int (nomark _)) (pss_one (ps_set (i := 4) sc_law.nd rfl (Or.inl rfl) (pe_m1 (r := rJoinK K) PySem.F.slot_str_join PySem.F.type_str_join mt_join pe_str (pe_lc (own := [("_law_k", 7)]) (g := gName 7) (tt := tYes) rfl sc_law.nd (pi_range1 rfl T.range (pa_cons (pe_op op_add pe_int (pe_call (ok_pull T) (hr.mono (by decide)) rfl T.d_pull.m T.d_pull.F.kp T.d_pull.b .nil pass0 (pa_cons (pv 1) (pa_cons pe_int pa_nil)))) pa_nil)) (blkOk_by (own := [("_law_k", 7)]) (N := ["_law_script", "_law_bag_here", "_law_texts", "_law_turn", "_law_word", "_law_tails", "_law_text", "_law_k"]) (sc := defScope s_law) (by decide +kernel)) (fun _ _ _ _ _ => (pg_name (i := 7) sc_law.nd rfl (Or.inl rfl))) (fun _ _ _ _ _ => pts_nil) (fun _ _ _ _ _ => (pe_call (ok_ofS T) (hr.mono (by decide)) rfl T.d_of.m T.d_of.F.kp T.d_of.b .nil pass0 (pa_cons (pv 1) (pa_cons (pe_call0 (ok_letters T) (hr.mono (by decide)) rfl T.d_letters.m T.d_letters.F.kp T.d_letters.b .nil pass0) pa_nil)))))))) pss_nil)
    (pss_cons (ps_setLc (i := 5) (own := [("_law_k", 7)]) (g := gName 7) (tt := tYes) rfl sc_law.nd rfl rfl (sw_true rfl rfl rfl (by decide +kernel)) (pi_range1 rfl T.range (pa_cons (pe_call (ok_pull T) (hr.mono (by decide)) rfl T.d_pull.m T.d_pull.F.kp T.d_pull.b .nil pass0 (pa_cons (pv 1) (pa_cons pe_int pa_nil))) pa_nil)) (blkOk_by (own := [("_law_k", 7)]) (N := ["_law_script", "_law_bag_here", "_law_texts", "_law_turn", "_law_word", "_law_tails", "_law_text", "_law_k"]) (sc := defScope s_law) (by decide +kernel)) (fun _ _ _ _ _ => (pg_name (i := 7) sc_law.nd rfl (Or.inl rfl))) (fun _ _ _ _ _ => pts_nil) (fun _ _ _ _ _ => (pe_op op_add_str pe_str (pe_callTy call_str_int (by rfl) T.str (by decide +kernel) (pa_cons (pe_call (ok_of T) (hr.mono (by decide)) rfl T.d_of.m T.d_of.F.kp T.d_of.b .nil pass0 (pa_cons (pv 1) (pa_cons (pe_lst (pa_cons (pe_op op_add pe_int (pe_call (ok_pull T) (hr.mono (by decide)) rfl T.d_pull.m T.d_pull.F.kp T.d_pull.b .nil pass0 (pa_cons (pv 1) (pa_cons pe_int pa_nil)))) (pa_cons pe_int (pa_cons pe_int (pa_cons pe_int pa_nil))))) pa_nil))) pa_nil)))))
    (pss_one (ps_set (i := 2) sc_law.nd rfl (Or.inl rfl) (pe_op op_cat (pv 2) (pe_lst (pa_cons (pv 4) (pa_cons (pe_op op_add_str (pv 4) (pe_m1 (r := rJoinK K) PySem.F.slot_str_join PySem.F.type_str_join mt_join pe_str (pv 5))) pa_nil))))))))))
    (pss_cons (ps_for PassesOwn.never rfl (pi_list (pv 2)) (pg_name (i := 6) sc_law.nd rfl (Or.inl rfl)) (pss_one (ps_if (pt_not (pt_val (pe_call (ok_same T) (hr.mono (by decide)) rfl T.d_same.m T.d_same.F.kp T.d_same.b .nil pass0 (pa_cons (pe_lst (pa_cons (pe_call (ok_is_plain T) (hr.mono (by decide)) rfl T.d_is_plain.m T.d_is_plain.F.kp T.d_is_plain.b .nil pass0 (pa_cons (pv 6) pa_nil)) (pa_cons (pe_call (ok_is_piece T) (hr.mono (by decide)) rfl T.d_is_piece.m T.d_is_piece.F.kp T.d_is_piece.b .nil pass0 (pa_cons (pv 6) pa_nil)) pa_nil))) (pa_cons (pe_lst (pa_cons (pe_call (ok_plain_name T) (hr.mono (by decide)) rfl T.d_plain_name.m T.d_plain_name.F.kp T.d_plain_name.b .nil pass0 (pa_cons (pv 6) pa_nil)) (pa_cons (pe_call (ok_piece_name T) (hr.mono (by decide)) rfl T.d_piece_name.m T.d_piece_name.F.kp T.d_piece_name.b .nil pass0 (pa_cons (pv 6) pa_nil)) pa_nil))) pa_nil))))) (pss_one (ps_ret pe_bl)) pss_nil)))
    (pss_one (ps_ret (pe_cmpR (r := rEqD K) (op_eqD hr.units) (pe_lst (pa_cons (pe_glob (v := .int 5) rfl T.MOST_PLAYERS.choose_spec ⟨_, rfl⟩) (pa_cons (pe_glob (v := .int 60) rfl T.MOST_STATEMENTS.choose_spec ⟨_, rfl⟩) (pa_cons (pe_glob (v := .int 200) rfl T.MOST_BRANCHES.choose_spec ⟨_, rfl⟩) (pa_cons (pe_glob (v := .int 40) rfl T.MOST_PIECES.choose_spec ⟨_, rfl⟩) pa_nil))))) (pe_lst (pa_cons pe_int (pa_cons pe_int (pa_cons pe_int (pa_cons pe_int pa_nil))))) (nomark _)))))))))), ?_⟩
  refine ⟨_, rfl, a, ns, rfl, hS, h63, fun b l H1 e1 hb hl B => ?_⟩
  refine ⟨slr rfl, fun l1 hl1 => ?_⟩
  refine ⟨_, rfl, slr rfl, fun l2 hl2 => ⟨l1, l2, _, _, rfl, rfl, Same.new hl2 _ _ _ upd_same, upd_same, slr rfl, fun l3 hl3 => ?_⟩⟩
  refine ⟨_, rfl, _, _, rfl, rfl, ⟨by decide, fun _ _ => by decide, fun _ _ => by decide⟩, _, _, rfl, rfl, slr rfl, _, _, rfl, rfl, ⟨by decide, fun _ _ => by decide, fun _ _ => by decide⟩, _, _, rfl, rfl, slr rfl, slr rfl, fun l4 hl4 => ⟨l3, l4, _, _, rfl, rfl, Same.new hl4 _ _ _ upd_same, upd_same, slr rfl, fun l5 hl5 => ?_⟩⟩
  refine ⟨10, rfl, by decide, by decide, ?_⟩
  refine for_range (n := 10) (fun i σ H' => Bag H' b l ∧ ∃ (t : Addr) (xs : List V) (u0 u3 u4 u5 u6 u7 : Option V), σ = [u0, some (.ref b), some (.ref t), u3, u4, u5, u6, u7] ∧ H' t = some (.lst xs) ∧ okT 300 xs = true ∧ xs.length ≤ 100 + 2 * i ∧ t ≠ b ∧ t ≠ l)
    ⟨?_, l5, _, _, _, _, _, _, _, rfl, upd_same, by decide +kernel, Nat.le_of_ble_eq_true rfl, ?_, ?_⟩ ?_ ?_
  · exact ((((B.new hl1 _).new hl2 _).new hl3 _).new hl4 _).new hl5 _
  · exact ((((B.new hl1 _).new hl2 _).new hl3 _).new hl4 _).ne hl5
  · exact ((((B.new hl1 _).new hl2 _).new hl3 _).new hl4 _).ne2 hl5
  · clear B e1 hb hl hl1 hl2 hl3 hl4 hl5
    rintro i σ H1 hi ⟨B, t, xs, u0, u3, u4, u5, u6, u7, rfl, ht, okx, hlx, htb, htl⟩
    have p10 : (10 : Int).natAbs < 2 ^ 200 := Nat.lt_of_lt_of_le (by decide : (10 : Int).natAbs < 2 ^ 4) (RM.pow_le (by decide))
    have p100 : ∀ {m : Int}, m.natAbs ≤ 200 → m.natAbs < 2 ^ 200 := fun {m} h => Nat.lt_of_lt_of_le (show m.natAbs < 2 ^ 8 by omega) (RM.pow_le (by decide))
    -- a word out of all signs
    refine ⟨⟨_, rfl⟩, _, rfl, b, l, 10, rfl, B, by decide, p10, fun r H2 r0 r1 ap2 B2 => ?_⟩
    refine ⟨r, rfl, by omega, by omega, fun D hD => ?_⟩
    refine lc_range (lo := 0) (n := r.toNat) (fun j H' => Bag H' b l ∧ Apart b H2 H' ∧ ∃ cs : List V, H' D = some (.lst cs) ∧ okT 1 cs = true ∧ cs.length = j) ⟨B2.new hD _, (Same.new hD _).apart, [], upd_same, rfl, rfl⟩ ?_ ?_
    · rintro j H3 hj ⟨B3, ap3, cs, hcs, okc, hcl⟩
      refine ⟨rfl, ⟨_, rfl, rfl, _, rfl, by decide, fun l1 hl1 => ⟨slr rfl, fun l2 hl2 => ⟨l1, l2, _, _, rfl, rfl, Same.new hl2 _ _ _ upd_same, upd_same, slr rfl, fun l3 hl3 => ?_⟩⟩⟩⟩
      refine ⟨b, l, l3, _, rfl, ((B3.new hl1 _).new hl2 _).new hl3 _, SqL.of upd_same, ((B3.new hl1 _).new hl2 _).ne hl3, Nat.lt_of_lt_of_le (by decide : 0 < 29) (by decide +kernel), by decide +kernel, fun k v H7 hv ap7 B7 => ?_⟩
      obtain ⟨c, rfl, hc⟩ := okT_at (m := 1) (by decide +kernel) hv
      have hDb : D ≠ b := B2.ne hD
      have h7 := ap7 _ _ hDb (Same.new hl3 _ _ _ (Same.new hl2 _ _ _ (Same.new hl1 _ _ _ hcs)))
      refine ⟨cs, h7, sl_lt (by omega), B7.upd hDb (B2.ne2 hD), fun p o np ep => ?_, cs ++ [.str c], upd_same, okT_app okc (okT_one hc), by rw [List.length_append, hcl]; rfl⟩
      rw [upd_ne (ne_of_none ep hD)]
      exact ap7 _ _ np (Same.new hl3 _ _ _ (Same.new hl2 _ _ _ (Same.new hl1 _ _ _ (ap3 _ _ np ep))))
    rintro H3 ⟨B3, ap3, cs, hcs, okc, hcl⟩
    obtain ⟨ys, ey, hy⟩ := okT_strs okc
    subst ey
    have hys : ys.length = r.toNat := by rw [← hcl, List.length_map]
    have sys := sum_le hy
    have e0 : (Str.ofString "").length = 0 := by decide
    refine ⟨_, D, ys, rfl, rfl, .inl (SqL.of hcs), by rw [e0]; omega, ?_⟩
    have jl : (Txt.join "" ys).length ≤ 20 := by
      have := join_le (a := "") (ys := ys)
      rw [e0] at this
      omega
    have ht3 := ap3 _ _ htb (ap2 _ _ htb ht)
    generalize Txt.join "" ys = word at jl
    clear hcs okc hcl hy hys sys ap3 ap2 ht B2 hD B
    -- or out of letters
    dsimp only [gName]
    refine seq_key (fun σ' H' => Bag H' b l ∧ ∃ (u0 u3 u5 u6 u7 : Option V) (w : Str), σ' = [u0, some (.ref b), some (.ref t), u3, some (.str w), u5, u6, u7] ∧ H' t = some (.lst xs) ∧ w.length ≤ 20) ?_ (fun k => ?_)
    · rintro σ' H4 ⟨B4, u0, u3, u5, u6, u7, wd, rfl, ht4, hw⟩
      refine ⟨_, rfl, b, l, 9, rfl, B4, by decide, p100 (by decide), fun r5 H5 r50 r51 ap5 B5 => ?_⟩
      refine ⟨r5, rfl, by omega, by omega, fun D5 hD5 => ?_⟩
      refine lc_range (lo := 0) (n := r5.toNat) (fun j H' => Bag H' b l ∧ Apart b H5 H' ∧ ∃ cs : List V, H' D5 = some (.lst cs) ∧ okT 10 cs = true ∧ cs.length = j) ⟨B5.new hD5 _, (Same.new hD5 _).apart, [], upd_same, rfl, rfl⟩ ?_ ?_
      · rintro j H6 hj ⟨B6, ap6, cs, hcs, okc, hcl⟩
        refine ⟨rfl, ⟨_, rfl, _, rfl, b, l, 99, rfl, B6, by decide, p100 (by decide), fun r7 H7 r70 r71 ap7 B7 => ⟨_, _, rfl, rfl, slr rfl, fun l1 hl1 => ?_⟩⟩⟩
        refine ⟨b, l, l1, _, rfl, B7.new hl1 _, SqL.of upd_same, B7.ne hl1, by show 0 < 4; decide, by show 4 ≤ 1000; decide, fun k v H8 hv ap8 B8 => ?_⟩
        obtain ⟨n, rfl, hn⟩ : ∃ n : Nat, v = .int ((n : Nat) : Int) ∧ n < 101 := by
          match k, hv with
          | 0, hv => cases hv; exact ⟨(1 + r7).toNat, by rw [Int.toNat_of_nonneg (by omega)], by omega⟩
          | 1, hv => cases hv; exact ⟨1, rfl, by decide⟩
          | 2, hv => cases hv; exact ⟨100, rfl, by decide⟩
          | 3, hv => cases hv; exact ⟨0, rfl, by decide⟩
        have hDb : D5 ≠ b := B5.ne hD5
        have h8 := ap8 _ _ hDb (Same.new hl1 _ _ _ (ap7 _ _ hDb hcs))
        have hn3 := num_len n hn
        have hd1 : (Str.ofString ".").length = 1 := by decide
        refine ⟨_, rfl, PySem.Flt.log2_lt_of (by decide) (Nat.lt_of_lt_of_le (show ((n : Nat) : Int).natAbs < 2 ^ 7 by omega) (RM.pow_le (by decide))), _, _, rfl, rfl, sl_small (by omega), ?_⟩
        refine ⟨cs, h8, sl_lt (by omega), B8.upd hDb (B5.ne2 hD5), fun p o np ep => ?_, _, upd_same, okT_app okc (okT_one ?_), by rw [List.length_append, hcl]; rfl⟩
        · rw [upd_ne (ne_of_none ep hD5)]
          exact ap8 _ _ np (Same.new hl1 _ _ _ (ap7 _ _ np (ap6 _ _ np ep)))
        · rw [show (Str.ofString "." ++ Str.ofString (toString ((n : Nat) : Int))).length = (Str.ofString ".").length + (Str.ofString (toString ((n : Nat) : Int))).length from Array.size_append ..]
          omega
      rintro H6 ⟨B6, ap6, cs, hcs, okc, hcl⟩
      obtain ⟨ys, ey, hy⟩ := okT_strs okc
      subst ey
      have hys : ys.length = r5.toNat := by rw [← hcl, List.length_map]
      have sys := sum_le hy
      have e0 : (Str.ofString "").length = 0 := by decide
      have jl : (Txt.join "" ys).length ≤ 100 := by
        have := join_le (a := "") (ys := ys)
        rw [e0] at this
        omega
      have ht6 := ap6 _ _ htb (ap5 _ _ htb ht4)
      refine ⟨_, rfl, _, rfl, _, rfl, ⟨_, rfl⟩, _, rfl, _, D5, ys, rfl, rfl, .inl (SqL.of hcs), by rw [e0]; omega, _, _, rfl, rfl, sl_small (by omega), slr rfl, fun l7 hl7 => ?_⟩
      refine ⟨t, l7, _, _, rfl, rfl, Same.new hl7 _ _ _ ht6, upd_same, sl_small (by show xs.length + 2 ≤ 100000; omega), fun l8 hl8 => ?_⟩
      have hwl : (wd ++ Txt.join "" ys).length ≤ 120 := by
        rw [show (wd ++ Txt.join "" ys).length = wd.length + (Txt.join "" ys).length from Array.size_append ..]
        omega
      refine ⟨(B6.new hl7 _).new hl8 _, l8, _, _, _, _, _, _, _, rfl, upd_same, okT_app okx (okT_app (xs := [.str wd]) (okT_one (by omega)) (okT_one (t := wd ++ Txt.join "" ys) (by omega))), by rw [List.length_append]; show xs.length + 2 ≤ _; omega, (B6.new hl7 _).ne hl8, (B6.new hl7 _).ne2 hl8⟩
    · refine ⟨_, rfl, b, l, 2, rfl, B3, by decide, p100 (by decide), fun r2 H4 _ _ ap4 B4 => ⟨rfl, _, rfl, ?_⟩⟩
      have ht4 := ap4 _ _ htb ht3
      refine ite2 (fun _ => ?_) (fun _ => k _ _ ⟨B4, _, _, _, _, _, _, rfl, ht4, jl⟩)
      refine ⟨⟨_, rfl⟩, _, rfl, b, l, 9, rfl, B4, by decide, p100 (by decide), fun r3 H5 r30 r31 ap5 B5 => ?_⟩
      refine ⟨_, _, rfl, rfl, _, rfl, by omega, by omega, fun D5 hD5 => ?_⟩
      refine lc_range (lo := 0) (n := (1 + r3).toNat) (fun j H' => Bag H' b l ∧ Apart b H5 H' ∧ ∃ cs : List V, H' D5 = some (.lst cs) ∧ okT 1 cs = true ∧ cs.length = j) ⟨B5.new hD5 _, (Same.new hD5 _).apart, [], upd_same, rfl, rfl⟩ ?_ ?_
      · rintro j H6 hj ⟨B6, ap6, cs, hcs, okc, hcl⟩
        refine ⟨rfl, ⟨_, rfl, rfl, b, l, _, rfl, B6, by decide +kernel, by decide +kernel, fun c H7 _ ap7 B7 => ?_⟩⟩
        have hDb : D5 ≠ b := B5.ne hD5
        refine ⟨cs, ap7 _ _ hDb hcs, sl_lt (by omega), B7.upd hDb (B5.ne2 hD5), fun p o np ep => ?_, _, upd_same, okT_app okc (okT_one (by show 1 ≤ 1; decide)), by rw [List.length_append, hcl]; rfl⟩
        rw [upd_ne (ne_of_none ep hD5)]
        exact ap7 _ _ np (ap6 _ _ np ep)
      rintro H6 ⟨B6, ap6, cs, hcs, okc, hcl⟩
      obtain ⟨ys, ey, hy⟩ := okT_strs okc
      subst ey
      have hys : ys.length = (1 + r3).toNat := by rw [← hcl, List.length_map]
      have sys := sum_le hy
      have e0 : (Str.ofString "").length = 0 := by decide
      refine ⟨_, D5, ys, rfl, rfl, .inl (SqL.of hcs), by rw [e0]; omega, ?_⟩
      refine k _ _ ⟨B6, _, _, _, _, _, _, rfl, ap6 _ _ htb (ap5 _ _ htb ht4), ?_⟩
      have := join_le (a := "") (ys := ys)
      rw [e0] at this
      omega
  · rintro σ H1 ⟨B, t, xs, u0, u3, u4, u5, u6, u7, rfl, ht, okx, hlx, htb, htl⟩
    refine ⟨_, rfl, t, rfl, ⟨_, SqL.of ht⟩, ?_⟩
    refine for_list (xs := xs) (fun i σ H' => Same H1 H' ∧ ∃ (u0 u3 u4 u5 u6 u7 : Option V), σ = [u0, some (.ref b), some (.ref t), u3, u4, u5, u6, u7]) ⟨Same.refl H1, _, _, _, _, _, _, rfl⟩ (fun i σ H' _ h => SqL.of (h.1 _ _ ht)) ?_ ?_
    · rintro i v σ H2 hv ⟨e2, u0, u3, u4, u5, u6, u7, rfl⟩
      obtain ⟨x, rfl, hx⟩ := okT_at okx hv
      have hx5 : x.length ≤ 50000 := by omega
      refine ⟨_, rfl, x, rfl, hx5, fun H3 e3 => ?_⟩
      refine ⟨_, rfl, x, rfl, hx5, fun H4 e4 => ?_⟩
      refine ⟨slr rfl, fun l1 hl1 => ?_⟩
      refine ⟨_, rfl, x, rfl, hx5, fun H5 e5 => ?_⟩
      refine ⟨_, rfl, x, rfl, hx5, fun H6 e6 => ?_⟩
      refine ⟨slr rfl, fun l2 hl2 => ?_⟩
      refine ⟨_, _, rfl, .inr (.inl ⟨l1, l2, _, _, rfl, rfl, Same.new hl2 _ _ _ (e6 _ _ (e5 _ _ upd_same)), upd_same, ?_, by show 2 ≤ 100000; decide⟩), fun H7 e7 => ?_⟩
      · rw [NM.plain_eq, piece_eq]
        exact .cons (EqD.flat (x := .bl _) True.intro) (.cons (EqD.flat (x := .bl _) True.intro) .nil)
      refine ⟨_, rfl, iteF ?_⟩
      exact ⟨e2.trans (e3.trans (e4.trans ((Same.new hl1 _).trans (e5.trans (e6.trans ((Same.new hl2 _).trans e7)))))), _, _, _, _, _, _, rfl⟩
    · rintro σ H2 ⟨e2, u0, u3, u4, u5, u6, u7, rfl⟩
      refine ⟨slr rfl, fun l1 hl1 => ⟨slr rfl, fun l2 hl2 => ?_⟩⟩
      refine ⟨.list [.int 5, .int 60, .int 200, .int 40], .list [.int 5, .int 60, .int 200, .int 40], .lst (SqL.of (Same.new hl2 _ _ _ upd_same)) (.cons (.int _) (.cons (.int _) (.cons (.int _) (.cons (.int _) .nil)))), .lst (SqL.of upd_same) (.cons (.int _) (.cons (.int _) (.cons (.int _) (.cons (.int _) .nil)))), by decide +kernel, by decide +kernel, ?_⟩
      rw [SeqAt.eqv_refl _ (by decide +kernel)]
      exact q _
end

theorem all_mk {l : PySem.W.OpenLaw} {w : World} {K : PySem.W.Frag} {h : Heap} {mg : Str → Option Value} {fa f1 f2 f3 f4 f5 f6 f7 f8 f9 f10 f11 : Addr} (X : K.In h) (G : h.Ns mainGlobals mg) (hfa : mg "law" = some (.ref fa))
    {od1 an1 od2 an2 od3 an3 od4 an4 od5 an5 od6 an6 od7 an7 od8 an8 od9 an9 od10 an10 od11 an11 : Option Addr} {sl1 sl2 sl3 sl4 sl5 sl6 sl7 sl8 sl9 sl10 sl11 : Array (Option Value)} {oc1 kV1 dc1 pm1 cd1 ct1 oc2 kV2 dc2 pm2 cd2 ct2 oc3 kV3 dc3 pm3 cd3 ct3 oc4 kV4 dc4 pm4 cd4 ct4 oc5 kV5 dc5 pm5 cd5 ct5 oc6 kV6 dc6 pm6 cd6 ct6 oc7 kV7 dc7 pm7 cd7 ct7 oc8 kV8 dc8 pm8 cd8 ct8 oc9 kV9 dc9 pm9 cd9 ct9 oc10 kV10 dc10 pm10 cd10 ct10 oc11 kV11 dc11 pm11 cd11 ct11 : Value}
    (a1 : PySem.W.nsIn K mainGlobals "is_plain" = some (some (.ref f1))) (l1 : K.lookup f1 = some ⟨oc1, od1, .func (PySem.W.fnOf "is_plain" "is_plain" (defArgs s_is_plain) (defBody s_is_plain) (defScope s_is_plain) .none kV1 dc1 pm1 an1 cd1 ct1), sl1⟩) (c1 : PySem.W.codeIn K cd1 "is_plain" = true) (k1 : PySem.W.keepIn K (.ref f1) = true)
    (a2 : PySem.W.nsIn K mainGlobals "is_suffix" = some (some (.ref f2))) (l2 : K.lookup f2 = some ⟨oc2, od2, .func (PySem.W.fnOf "is_suffix" "is_suffix" (defArgs s_is_suffix) (defBody s_is_suffix) (defScope s_is_suffix) .none kV2 dc2 pm2 an2 cd2 ct2), sl2⟩) (c2 : PySem.W.codeIn K cd2 "is_suffix" = true) (k2 : PySem.W.keepIn K (.ref f2) = true)
    (a3 : PySem.W.nsIn K mainGlobals "is_piece" = some (some (.ref f3))) (l3 : K.lookup f3 = some ⟨oc3, od3, .func (PySem.W.fnOf "is_piece" "is_piece" (defArgs s_is_piece) (defBody s_is_piece) (defScope s_is_piece) .none kV3 dc3 pm3 an3 cd3 ct3), sl3⟩) (c3 : PySem.W.codeIn K cd3 "is_piece" = true) (k3 : PySem.W.keepIn K (.ref f3) = true)
    (a4 : PySem.W.nsIn K mainGlobals "_law_bag" = some (some (.ref f4))) (l4 : K.lookup f4 = some ⟨oc4, od4, .func (PySem.W.fnOf "_law_bag" "_law_bag" (defArgs s_bag) (defBody s_bag) (defScope s_bag) .none kV4 dc4 pm4 an4 cd4 ct4), sl4⟩) (c4 : PySem.W.codeIn K cd4 "_law_bag" = true) (k4 : PySem.W.keepIn K (.ref f4) = true)
    (a5 : PySem.W.nsIn K mainGlobals "_law_pull" = some (some (.ref f5))) (l5 : K.lookup f5 = some ⟨oc5, od5, .func (PySem.W.fnOf "_law_pull" "_law_pull" (defArgs s_pull) (defBody s_pull) (defScope s_pull) .none kV5 dc5 pm5 an5 cd5 ct5), sl5⟩) (c5 : PySem.W.codeIn K cd5 "_law_pull" = true) (k5 : PySem.W.keepIn K (.ref f5) = true)
    (a6 : PySem.W.nsIn K mainGlobals "_law_of" = some (some (.ref f6))) (l6 : K.lookup f6 = some ⟨oc6, od6, .func (PySem.W.fnOf "_law_of" "_law_of" (defArgs s_of) (defBody s_of) (defScope s_of) .none kV6 dc6 pm6 an6 cd6 ct6), sl6⟩) (c6 : PySem.W.codeIn K cd6 "_law_of" = true) (k6 : PySem.W.keepIn K (.ref f6) = true)
    (a7 : PySem.W.nsIn K mainGlobals "_law_same" = some (some (.ref f7))) (l7 : K.lookup f7 = some ⟨oc7, od7, .func (PySem.W.fnOf "_law_same" "_law_same" (defArgs s_same) (defBody s_same) (defScope s_same) .none kV7 dc7 pm7 an7 cd7 ct7), sl7⟩) (c7 : PySem.W.codeIn K cd7 "_law_same" = true) (k7 : PySem.W.keepIn K (.ref f7) = true)
    (a8 : PySem.W.nsIn K mainGlobals "_law_letters" = some (some (.ref f8))) (l8 : K.lookup f8 = some ⟨oc8, od8, .func (PySem.W.fnOf "_law_letters" "_law_letters" (defArgs s_letters) (defBody s_letters) (defScope s_letters) .none kV8 dc8 pm8 an8 cd8 ct8), sl8⟩) (c8 : PySem.W.codeIn K cd8 "_law_letters" = true) (k8 : PySem.W.keepIn K (.ref f8) = true)
    (a9 : PySem.W.nsIn K mainGlobals "_law_plain_name" = some (some (.ref f9))) (l9 : K.lookup f9 = some ⟨oc9, od9, .func (PySem.W.fnOf "_law_plain_name" "_law_plain_name" (defArgs s_plain_name) (defBody s_plain_name) (defScope s_plain_name) .none kV9 dc9 pm9 an9 cd9 ct9), sl9⟩) (c9 : PySem.W.codeIn K cd9 "_law_plain_name" = true) (k9 : PySem.W.keepIn K (.ref f9) = true)
    (a10 : PySem.W.nsIn K mainGlobals "_law_piece_name" = some (some (.ref f10))) (l10 : K.lookup f10 = some ⟨oc10, od10, .func (PySem.W.fnOf "_law_piece_name" "_law_piece_name" (defArgs s_piece_name) (defBody s_piece_name) (defScope s_piece_name) .none kV10 dc10 pm10 an10 cd10 ct10), sl10⟩) (c10 : PySem.W.codeIn K cd10 "_law_piece_name" = true) (k10 : PySem.W.keepIn K (.ref f10) = true)
    (a11 : PySem.W.nsIn K mainGlobals "law" = some (some (.ref f11))) (l11 : K.lookup f11 = some ⟨oc11, od11, .func (PySem.W.fnOf "law" "law" (defArgs s_law) (defBody s_law) (defScope s_law) .none kV11 dc11 pm11 an11 cd11 ct11), sl11⟩) (c11 : PySem.W.codeIn K cd11 "law" = true) (k11 : PySem.W.keepIn K (.ref f11) = true)
    (z_all : PySem.W.nsIn K mainGlobals "all" = some none) (z_bool : PySem.W.nsIn K mainGlobals "bool" = some none) (z_int : PySem.W.nsIn K mainGlobals "int" = some none) (z_isinstance : PySem.W.nsIn K mainGlobals "isinstance" = some none) (z_len : PySem.W.nsIn K mainGlobals "len" = some none) (z_list : PySem.W.nsIn K mainGlobals "list" = some none) (z_range : PySem.W.nsIn K mainGlobals "range" = some none) (z_str : PySem.W.nsIn K mainGlobals "str" = some none) (z_tuple : PySem.W.nsIn K mainGlobals "tuple" = some none)
    {tk0 tk1 tk2 tk3 tk4 tk5 tk6 : Tok} (n_0 : PySem.W.nsIn K mainGlobals "MOST_PLAYERS" = some (some (.int 5 tk0))) (n_1 : PySem.W.nsIn K mainGlobals "MOST_STATEMENTS" = some (some (.int 60 tk1))) (n_2 : PySem.W.nsIn K mainGlobals "MOST_BRANCHES" = some (some (.int 200 tk2))) (n_3 : PySem.W.nsIn K mainGlobals "MOST_PIECES" = some (some (.int 40 tk3))) (n_4 : PySem.W.nsIn K mainGlobals "MOST_LETTERS" = some (some (.int 8 tk4))) (n_5 : PySem.W.nsIn K mainGlobals "MOST_SUFFIXES" = some (some (.int 6 tk5))) (n_6 : PySem.W.nsIn K mainGlobals "MOST_SUFFIX_DIGITS" = some (some (.int 2 tk6))) :
    ∃ fd : FuncData, (∀ (s : Shared) (v : Value), BindsTo s fd ⟨[v], []⟩ [("_law_script", v)]) ∧ ∀ base : Heap, K.In base → base.Ns mainGlobals mg → FnOk l.prog w K mg base CX0 12 fa fd ["_law_script"] (spLaw K) := by
  have e := hfa.symm.trans (PySem.W.mg_of X G a11)
  cases e
  have F1 := fun_mk (st := s_is_plain) l1 c1 k1
  have b1 := F1.binds (ps := ["text"]) fun _ _ _ _ _ _ us hl => match us, hl with | [_], _ => rfl
  have F2 := fun_mk (st := s_is_suffix) l2 c2 k2
  have b2 := F2.binds (ps := ["text"]) fun _ _ _ _ _ _ us hl => match us, hl with | [_], _ => rfl
  have F3 := fun_mk (st := s_is_piece) l3 c3 k3
  have b3 := F3.binds (ps := ["text"]) fun _ _ _ _ _ _ us hl => match us, hl with | [_], _ => rfl
  have F4 := fun_mk (st := s_bag) l4 c4 k4
  have b4 := F4.binds (ps := ["_law_script"]) fun _ _ _ _ _ _ us hl => match us, hl with | [_], _ => rfl
  have F5 := fun_mk (st := s_pull) l5 c5 k5
  have b5 := F5.binds (ps := ["_law_bag_here", "_law_many"]) fun _ _ _ _ _ _ us hl => match us, hl with | [_, _], _ => rfl
  have F6 := fun_mk (st := s_of) l6 c6 k6
  have b6 := F6.binds (ps := ["_law_bag_here", "_law_some"]) fun _ _ _ _ _ _ us hl => match us, hl with | [_, _], _ => rfl
  have F7 := fun_mk (st := s_same) l7 c7 k7
  have b7 := F7.binds (ps := ["_law_found", "_law_due"]) fun _ _ _ _ _ _ us hl => match us, hl with | [_, _], _ => rfl
  have F8 := fun_mk (st := s_letters) l8 c8 k8
  have b8 := F8.binds (ps := []) fun _ _ _ _ _ _ us hl => match us, hl with | [], _ => rfl
  have F9 := fun_mk (st := s_plain_name) l9 c9 k9
  have b9 := F9.binds (ps := ["_law_text"]) fun _ _ _ _ _ _ us hl => match us, hl with | [_], _ => rfl
  have F10 := fun_mk (st := s_piece_name) l10 c10 k10
  have b10 := F10.binds (ps := ["_law_text"]) fun _ _ _ _ _ _ us hl => match us, hl with | [_], _ => rfl
  have F11 := fun_mk (st := s_law) l11 c11 k11
  have b11 := F11.binds (ps := ["_law_script"]) fun _ _ _ _ _ _ us hl => match us, hl with | [_], _ => rfl
  have T : Txt K mg ⟨f1, PySem.W.fnOf "is_plain" "is_plain" (defArgs s_is_plain) (defBody s_is_plain) (defScope s_is_plain) .none kV1 dc1 pm1 an1 cd1 ct1, f2, PySem.W.fnOf "is_suffix" "is_suffix" (defArgs s_is_suffix) (defBody s_is_suffix) (defScope s_is_suffix) .none kV2 dc2 pm2 an2 cd2 ct2, f3, PySem.W.fnOf "is_piece" "is_piece" (defArgs s_is_piece) (defBody s_is_piece) (defScope s_is_piece) .none kV3 dc3 pm3 an3 cd3 ct3, f4, PySem.W.fnOf "_law_bag" "_law_bag" (defArgs s_bag) (defBody s_bag) (defScope s_bag) .none kV4 dc4 pm4 an4 cd4 ct4, f5, PySem.W.fnOf "_law_pull" "_law_pull" (defArgs s_pull) (defBody s_pull) (defScope s_pull) .none kV5 dc5 pm5 an5 cd5 ct5, f6, PySem.W.fnOf "_law_of" "_law_of" (defArgs s_of) (defBody s_of) (defScope s_of) .none kV6 dc6 pm6 an6 cd6 ct6, f7, PySem.W.fnOf "_law_same" "_law_same" (defArgs s_same) (defBody s_same) (defScope s_same) .none kV7 dc7 pm7 an7 cd7 ct7, f8, PySem.W.fnOf "_law_letters" "_law_letters" (defArgs s_letters) (defBody s_letters) (defScope s_letters) .none kV8 dc8 pm8 an8 cd8 ct8, f9, PySem.W.fnOf "_law_plain_name" "_law_plain_name" (defArgs s_plain_name) (defBody s_plain_name) (defScope s_plain_name) .none kV9 dc9 pm9 an9 cd9 ct9, f10, PySem.W.fnOf "_law_piece_name" "_law_piece_name" (defArgs s_piece_name) (defBody s_piece_name) (defScope s_piece_name) .none kV10 dc10 pm10 an10 cd10 ct10, fa, PySem.W.fnOf "law" "law" (defArgs s_law) (defBody s_law) (defScope s_law) .none kV11 dc11 pm11 an11 cd11 ct11⟩ := ⟨⟨F1, PySem.W.mg_of X G a1, b1⟩, ⟨F2, PySem.W.mg_of X G a2, b2⟩, ⟨F3, PySem.W.mg_of X G a3, b3⟩, ⟨F4, PySem.W.mg_of X G a4, b4⟩, ⟨F5, PySem.W.mg_of X G a5, b5⟩, ⟨F6, PySem.W.mg_of X G a6, b6⟩, ⟨F7, PySem.W.mg_of X G a7, b7⟩, ⟨F8, PySem.W.mg_of X G a8, b8⟩, ⟨F9, PySem.W.mg_of X G a9, b9⟩, ⟨F10, PySem.W.mg_of X G a10, b10⟩, ⟨F11, PySem.W.mg_of X G a11, b11⟩, PySem.W.mg_none_of X G z_all, PySem.W.mg_none_of X G z_bool, PySem.W.mg_none_of X G z_int, PySem.W.mg_none_of X G z_isinstance, PySem.W.mg_none_of X G z_len, PySem.W.mg_none_of X G z_list, PySem.W.mg_none_of X G z_range, PySem.W.mg_none_of X G z_str, PySem.W.mg_none_of X G z_tuple, ⟨_, PySem.W.mg_of X G n_0⟩, ⟨_, PySem.W.mg_of X G n_1⟩, ⟨_, PySem.W.mg_of X G n_2⟩, ⟨_, PySem.W.mg_of X G n_3⟩, ⟨_, PySem.W.mg_of X G n_4⟩, ⟨_, PySem.W.mg_of X G n_5⟩, ⟨_, PySem.W.mg_of X G n_6⟩⟩
  exact ⟨PySem.W.fnOf "law" "law" (defArgs s_law) (defBody s_law) (defScope s_law) .none kV11 dc11 pm11 an11 cd11 ct11, fun s v => .of_eq rfl, fun base _ _ => ok_law T⟩
theorem walk {l : PySem.W.OpenLaw} {q : Program} {loose : List Str} {XP : (Str → Option Value) → Heap → Prop} {YP : World → Heap → Prop} {d : DefRec} {K : Params → PySem.W.Frag} (hn : l.most = some 63) (hdf : d.params.defaults = [])
    (hY : ∀ (w : World) (h : Heap), YP w h → (K w.params).In h)
    (F : ∀ (w : World) (mg : Str → Option Value) (fa : Addr) (h : Heap), (K w.params).In h → h.Ns mainGlobals mg → mg d.name = some (.ref fa) →
      ∃ fd : FuncData, (∀ (s : Shared) (u : Value), BindsTo s fd ⟨[u], []⟩ [("_law_script", u)]) ∧ ∀ base : Heap, (K w.params).In base → base.Ns mainGlobals mg → FnOk l.prog w (K w.params) mg base CX0 12 fa fd ["_law_script"] (spLaw (K w.params))) :
    PySem.W.WalkO q loose XP YP l.row.toRowW d [] (fun f vs => PySem.call f vs) :=
  L2.walk_of (n := 63) (k := 12) (x := "_law_script") (CX := fun _ => CX0) (sp := fun w => spLaw (K w.params)) hn (by decide) hdf ⟨rfl, by decide, by decide⟩ hY F (fun _ _ a ns hl _ hS => ⟨a, ns, rfl, hS, hl, fun _ => rfl⟩) fun _ _ _ _ _ z => z
end Toy
open PySem PySem.W PyProof.Rows in
set_option maxRecDepth 100000 in
set_option maxHeartbeats 0 in
theorem PySem.Challenge.cw_graincourse_k05_names_of_pieces_holds : PySem.Challenge.rw_graincourse_k05_names_of_pieces.Holds := by
  w_on; o_law; k_head; (case hw => w_witness2)
  k_fill
  refine Toy.walk (l := PySem.Challenge.rw_graincourse_k05_names_of_pieces) rfl rfl (fun w h Y => PySem.W.kIn_of Y) ?F
  case F =>
    intro w mg fa h KX G hmg
    refine' Toy.all_mk KX G hmg ?a1 ?l1 ?c1 ?k1 ?a2 ?l2 ?c2 ?k2 ?a3 ?l3 ?c3 ?k3 ?a4 ?l4 ?c4 ?k4 ?a5 ?l5 ?c5 ?k5 ?a6 ?l6 ?c6 ?k6 ?a7 ?l7 ?c7 ?k7 ?a8 ?l8 ?c8 ?k8 ?a9 ?l9 ?c9 ?k9 ?a10 ?l10 ?c10 ?k10 ?a11 ?l11 ?c11 ?k11 ?z_all ?z_bool ?z_int ?z_isinstance ?z_len ?z_list ?z_range ?z_str ?z_tuple ?n_0 ?n_1 ?n_2 ?n_3 ?n_4 ?n_5 ?n_6
    (case a1 => k_is)
    (case l1 => k_is)
    (case c1 => k_is)
    (case k1 => k_is)
    (case a2 => k_is)
    (case l2 => k_is)
    (case c2 => k_is)
    (case k2 => k_is)
    (case a3 => k_is)
    (case l3 => k_is)
    (case c3 => k_is)
    (case k3 => k_is)
    (case a4 => k_is)
    (case l4 => k_is)
    (case c4 => k_is)
    (case k4 => k_is)
    (case a5 => k_is)
    (case l5 => k_is)
    (case c5 => k_is)
    (case k5 => k_is)
    (case a6 => k_is)
    (case l6 => k_is)
    (case c6 => k_is)
    (case k6 => k_is)
    (case a7 => k_is)
    (case l7 => k_is)
    (case c7 => k_is)
    (case k7 => k_is)
    (case a8 => k_is)
    (case l8 => k_is)
    (case c8 => k_is)
    (case k8 => k_is)
    (case a9 => k_is)
    (case l9 => k_is)
    (case c9 => k_is)
    (case k9 => k_is)
    (case a10 => k_is)
    (case l10 => k_is)
    (case c10 => k_is)
    (case k10 => k_is)
    (case a11 => k_is)
    (case l11 => k_is)
    (case c11 => k_is)
    (case k11 => k_is)
    (case z_all => k_is)
    (case z_bool => k_is)
    (case z_int => k_is)
    (case z_isinstance => k_is)
    (case z_len => k_is)
    (case z_list => k_is)
    (case z_range => k_is)
    (case z_str => k_is)
    (case z_tuple => k_is)
    (case n_0 => k_is)
    (case n_1 => k_is)
    (case n_2 => k_is)
    (case n_3 => k_is)
    (case n_4 => k_is)
    (case n_5 => k_is)
    (case n_6 => k_is)


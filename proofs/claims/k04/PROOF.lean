import PyProof.Rows.All
import Wide.All
import OpenK.AllK
import Wide.FinOn
import HandS.ForMost
import HandS.IsInst
import HandS.Wide
import HandS.Words
import HandS.Head0
import HandS.Head1
import HandS.Head2
import HandS.Head3
import HandS.HeadHook4
import HandS.HeadNt
import HandS.SetFor
import HandS.Strs
import HandS.ListItems
import KE.KDictSum
import HandS.Walk
import HandS.ForExc
import HandS.TupSets
import KE.KeyNested
import HandS.SortOrd
import HandS.SortRule
import HandS.TupLe
import KE.KSortTup
import PyProof.Rows.SortKeyStr
import PyProof.ListStr
import PyProof.TupleOfStr
import HandS.More
import HandS.OwnEq
import HandS.SlotsOwn
import KE.KCallOwn
import HandS.IterVal
import HandS.OwnIter
import HandS.Zip
import HandS.TupAny
import HandS.DictComp
import HandS.Deep
import HandS.Property
import HandS.Star
import KE.GoesZip
import KE.GoesMore
import HandS.Codes
import HandS.Conv
import HandS.FStr
import HandS.Exc
import HandS.HotCalls
import HandS.ExcField
import HandS.Lambda
import KE.KDictZip
import HandS.EndTab
import PySem.Challenge.RW_joinhouse_k04_whole_questions_changed
set_option Elab.async false
set_option linter.all false
/-! ## A1 -/
set_option maxRecDepth 100000
set_option maxHeartbeats 2000000
namespace K0
open PySem L2
abbrev tx : List Stmt := PySem.Challenge.pw_joinhouse_k04_whole_questions_changed.main.body
def top (i : Nat) : Stmt := tx.getD i (.Pass ⟨0, 0, 0, 0⟩)
abbrev sIsInt : Stmt := top 11
abbrev sIsCnt : Stmt := top 999
abbrev sIsWid : Stmt := top 13
/-- plain data as arguments -/
inductive Da (H : Hp) : V → Prop where
  | non : Da H .non
  | bl (b : Bool) : Da H (.bl b)
  | int (i : Int) : Da H (.int i)
  | str (x : Str) : Da H (.str x)
  | lst {a : Addr} {xs : List V} (h : H a = some (.lst xs)) : Da H (.ref a)
  | tup {a : Addr} {xs : List V} (h : H a = some (.tup xs)) : Da H (.ref a)
  | dK {a : Addr} {kvs : List (Key × V)} (h : H a = some (.dK kvs)) : Da H (.ref a)
def tyN (H : Hp) : V → String
  | .non => "NoneType"
  | .bl _ => "bool"
  | .int _ => "int"
  | .str _ => "str"
  | .ref a => match H a with
    | some (.lst _) => "list"
    | some (.tup _) => "tuple"
    | _ => "dict"
  | _ => ""
theorem Da.ty {K : PySem.W.Frag} {H : Hp} {v : V} (d : Da H v) : TyX K H v (.type (tyN H v)) := by
  cases d with
  | non => exact .base .non
  | bl b => exact .base (.bl b)
  | int i => exact .base (.int i)
  | str x => exact .base (.str x)
  | lst h => simp only [tyN, h]; exact .base (.lst h)
  | tup h => simp only [tyN, h]; exact .base (.tup h)
  | dK h => simp only [tyN, h]; exact .base (.dK h)
/-- an integer of at most sixty figures -/
@[irreducible] def big : Int := 10 ^ 60
def isI : V → Bool
  | .int i => decide (-big < i) && decide (i < big)
  | _ => false
def spIsInt : Sp := fun vs H Q _ => ∃ v, vs = [v] ∧ Da H v ∧ Q (.bl (isI v)) H
structure T1 (K : PySem.W.Frag) (mg : Str → Option Value) : Prop where
  isi : mg "isinstance" = none
  int : mg "int" = none
  bool : mg "bool" = none
  long : ∃ t, mg "_TOO_LONG" = some (.int big t)
theorem if_pos_of {c : Bool} {A B : Prop} (hc : c = true) (h : A) : if c = true then A else B := by
  rw [if_pos hc]
  exact h
theorem if_neg_of {c : Bool} {A B : Prop} (hc : c = false) (h : B) : if c = true then A else B := by
  rw [hc, if_neg Bool.false_ne_true]
  exact h
section
variable {P : Program} {w : World} {K : PySem.W.Frag} {mg : Str → Option Value} {base : Heap}
theorem scIsInt : FnScope ["value"] ["value"] (defScope sIsInt) := ⟨rfl, rfl, rfl, by decide +kernel, rfl, by decide +kernel, by decide +kernel⟩
theorem ok_isInt {f : Addr} {fd : FuncData} (F : Fun K "is_integer" "is_integer" sIsInt f fd) (T : T1 K mg) : FnOk P w K mg base CX0 1 f fd ["value"] spIsInt := by
  refine F.ok scIsInt (fun vs H Q E h => ?_) (fun cdv A outer s H vs Q E hr h => ?_)
  · obtain ⟨v, rfl, _⟩ := h
    rfl
  · obtain ⟨v, rfl, d, k⟩ := h
    obtain ⟨t, hl⟩ := T.long
    refine ⟨_, pss_one (ps_ret (pe_and (pe_callB call_isi (by rfl) T.isi (by decide +kernel) (pa_cons (pv 0) (pa_cons (pe_bltn (v := .ty "int") (by rfl) T.int (by decide +kernel) rfl) pa_nil)))
      (pe_and (pe_not (pe_callB call_isi (by rfl) T.isi (by decide +kernel) (pa_cons (pv 0) (pa_cons (pe_bltn (v := .ty "bool") (by rfl) T.bool (by decide +kernel) rfl) pa_nil))))
        (pe_one (pe_chain op_lt op_lt (pe_un un_neg (pe_glob (v := .int big) (by rfl) hl ⟨t, rfl⟩)) (pv 0) (pe_glob (v := .int big) (by rfl) hl ⟨t, rfl⟩)))))), ?_⟩
    cases d with
    | int i =>
      refine ⟨_, rfl, _, _, _, _, true, rfl, .ty _, .base (.int i), kit_ty (by decide +kernel), true, rfl, iteT ?_⟩
      refine ⟨_, rfl, _, _, _, _, false, rfl, .ty _, .base (.int i), kit_ty (by decide +kernel), false, rfl, true, rfl, iteT ?_⟩
      refine ⟨_, rfl, _, rfl, _, _, rfl, rfl, _, rfl, ?_⟩
      by_cases c1 : -big < i
      · refine if_pos_of (decide_eq_true c1) ⟨_, _, rfl, rfl, ?_⟩
        have e : isI (.int i) = decide (i < big) := by simp [isI, c1]
        rw [e] at k
        exact k
      · refine if_neg_of (decide_eq_false c1) ?_
        have e : isI (.int i) = false := by simp [isI, c1]
        rw [e] at k
        exact k
    | bl b =>
      refine ⟨_, rfl, _, _, _, _, true, rfl, .ty _, .base (.bl b), kit_ty (by decide +kernel), true, rfl, iteT ?_⟩
      refine ⟨_, rfl, _, _, _, _, true, rfl, .ty _, .base (.bl b), kit_ty (by decide +kernel), true, rfl, false, rfl, iteF ?_⟩
      exact k
    | non => exact ⟨_, rfl, _, _, _, _, false, rfl, .ty _, .base .non, kit_ty (by decide +kernel), false, rfl, iteF k⟩
    | str x => exact ⟨_, rfl, _, _, _, _, false, rfl, .ty _, .base (.str x), kit_ty (by decide +kernel), false, rfl, iteF k⟩
    | lst e => exact ⟨_, rfl, _, _, _, _, false, rfl, .ty _, .base (.lst e), kit_ty (by decide +kernel), false, rfl, iteF k⟩
    | tup e => exact ⟨_, rfl, _, _, _, _, false, rfl, .ty _, .base (.tup e), kit_ty (by decide +kernel), false, rfl, iteF k⟩
    | dK e => exact ⟨_, rfl, _, _, _, _, false, rfl, .ty _, .base (.dK e), kit_ty (by decide +kernel), false, rfl, iteF k⟩
end
end K0

/-! ## U0 -/
set_option maxRecDepth 100000
set_option maxHeartbeats 0
namespace K0
open PySem L2
/-! ### the head: what is looked at when the top has run -/
def loose0a : List PySem.Str := [("JoinError" : PySem.Str), ("InvalidQuestion" : PySem.Str), ("InvalidClause" : PySem.Str), ("InvalidOperation" : PySem.Str), ("UnknownName" : PySem.Str), ("Question" : PySem.Str), ("MAX_LETTERS" : PySem.Str), ("MAX_WIDTH" : PySem.Str), ("_TOO_LONG" : PySem.Str), ("MAX_CLAUSES" : PySem.Str), ("MAX_COLUMNS" : PySem.Str), ("_wall" : PySem.Str), ("is_integer" : PySem.Str), ("is_pair" : PySem.Str)]
def loose0b : List PySem.Str := [("is_width" : PySem.Str), ("is_name" : PySem.Str), ("are_names" : PySem.Str), ("are_different" : PySem.Str), ("is_ascending" : PySem.Str), ("is_dict_from" : PySem.Str), ("is_naming" : PySem.Str), ("is_clause" : PySem.Str), ("_columns_of" : PySem.Str), ("_tables_of" : PySem.Str), ("_are_clauses" : PySem.Str), ("_are_asked" : PySem.Str), ("_first_ones" : PySem.Str), ("_law_dice" : PySem.Str)]
def loose0c : List PySem.Str := [("_law_roll" : PySem.Str), ("_law_pick" : PySem.Str), ("_law_mixed" : PySem.Str), ("_law_question" : PySem.Str), ("_law_made" : PySem.Str), ("_law_columns" : PySem.Str), ("_law_widths" : PySem.Str), ("_law_renamed" : PySem.Str), ("_law_names" : PySem.Str), ("_law_images" : PySem.Str), ("_law_asking" : PySem.Str), ("_law_drawn" : PySem.Str), ("_law_tree" : PySem.Str), ("_law_knotted" : PySem.Str)]
def loose0d : List PySem.Str := [("_law_any" : PySem.Str), ("_law_written" : PySem.Str), ("_law_asking_some" : PySem.Str), ("_law_asked" : PySem.Str), ("_law_checked" : PySem.Str), ("_law_first_ones" : PySem.Str), ("_law_clauses_right" : PySem.Str), ("_law_names_right" : PySem.Str), ("_law_right" : PySem.Str)]
def loose0 : List PySem.Str := loose0a ++ loose0b ++ loose0c ++ loose0d
def fa0a : List He.Fa := [.glo ("Question" : PySem.Str), .glo ("InvalidQuestion" : PySem.Str), .glo ("InvalidClause" : PySem.Str), .glo ("InvalidOperation" : PySem.Str), .glo ("is_integer" : PySem.Str), .glo ("is_pair" : PySem.Str), .glo ("is_width" : PySem.Str), .glo ("is_name" : PySem.Str), .glo ("are_names" : PySem.Str), .glo ("are_different" : PySem.Str)]
def fa0b : List He.Fa := [.glo ("is_ascending" : PySem.Str), .glo ("is_dict_from" : PySem.Str), .glo ("is_naming" : PySem.Str), .glo ("is_clause" : PySem.Str), .glo ("_columns_of" : PySem.Str), .glo ("_tables_of" : PySem.Str), .glo ("_are_clauses" : PySem.Str), .glo ("_are_asked" : PySem.Str), .glo ("_first_ones" : PySem.Str), .glo ("_law_dice" : PySem.Str)]
def fa0c : List He.Fa := [.glo ("_law_roll" : PySem.Str), .glo ("_law_pick" : PySem.Str), .glo ("_law_mixed" : PySem.Str), .glo ("_law_question" : PySem.Str), .glo ("_law_made" : PySem.Str), .glo ("_law_columns" : PySem.Str), .glo ("_law_widths" : PySem.Str), .glo ("_law_renamed" : PySem.Str), .glo ("_law_names" : PySem.Str), .glo ("_law_images" : PySem.Str)]
def fa0d : List He.Fa := [.glo ("_law_asking" : PySem.Str), .glo ("_law_drawn" : PySem.Str), .glo ("_law_tree" : PySem.Str), .glo ("_law_knotted" : PySem.Str), .glo ("_law_any" : PySem.Str), .glo ("_law_written" : PySem.Str), .glo ("_law_asking_some" : PySem.Str), .glo ("_law_asked" : PySem.Str), .glo ("_law_checked" : PySem.Str), .glo ("_law_first_ones" : PySem.Str)]
def fa0e : List He.Fa := [.glo ("_law_clauses_right" : PySem.Str), .glo ("_law_names_right" : PySem.Str), .glo ("_law_right" : PySem.Str), .glo ("law" : PySem.Str), .free ("isinstance" : PySem.Str), .free ("int" : PySem.Str), .free ("bool" : PySem.Str), .free ("len" : PySem.Str), .free ("str" : PySem.Str), .free ("tuple" : PySem.Str)]
def fa0f : List He.Fa := [.free ("dict" : PySem.Str), .free ("all" : PySem.Str), .free ("any" : PySem.Str), .free ("abs" : PySem.Str), .free ("max" : PySem.Str), .free ("min" : PySem.Str), .free ("list" : PySem.Str), .free ("range" : PySem.Str), .free ("set" : PySem.Str), .free ("sorted" : PySem.Str)]
def fa0g : List He.Fa := [.free ("zip" : PySem.Str), .free ("enumerate" : PySem.Str), .int ("MAX_LETTERS" : PySem.Str) 8, .int ("MAX_WIDTH" : PySem.Str) 8, .int ("MAX_CLAUSES" : PySem.Str) 8, .int ("MAX_COLUMNS" : PySem.Str) 8, .int ("_TOO_LONG" : PySem.Str) big, .cls ("Question" : PySem.Str), .noat "Question" ("_clauses" : PySem.Str), .noat "Question" ("_asked" : PySem.Str)]
def fa0h : List He.Fa := [.noat "Question" ("_columns" : PySem.Str), .noat "Question" ("_tables" : PySem.Str), .meth "Question" ("__init__" : PySem.Str), .meth "Question" ("index" : PySem.Str), .meth "Question" ("with_clause" : PySem.Str), .meth "Question" ("without_clause" : PySem.Str), .meth "Question" ("asking" : PySem.Str), .meth "Question" ("renamed" : PySem.Str), .meth "Question" ("retabled" : PySem.Str), .meth "Question" ("folded" : PySem.Str)]
def fa0i : List He.Fa := [.meth "Question" ("__add__" : PySem.Str), .meth "Question" ("__eq__" : PySem.Str), .meth "Question" ("__str__" : PySem.Str), .mkr ("Question" : PySem.Str), .exc ("InvalidQuestion" : PySem.Str), .exc ("InvalidClause" : PySem.Str), .exc ("InvalidOperation" : PySem.Str), .exm ("InvalidClause" : PySem.Str) ("InvalidClause" : PySem.Str) true, .exm ("InvalidQuestion" : PySem.Str) ("InvalidClause" : PySem.Str) false, .exm ("InvalidQuestion" : PySem.Str) ("InvalidQuestion" : PySem.Str) true]
def fa0 : List He.Fa := fa0a ++ fa0b ++ fa0c ++ fa0d ++ fa0e ++ fa0f ++ fa0g ++ fa0h ++ fa0i
def d11 : He.DefD := ⟨("is_integer", none), "is_integer", "is_integer", defArgs (top 11), defBody (top 11), defScope (top 11), [], []⟩
def d12 : He.DefD := ⟨("is_pair", none), "is_pair", "is_pair", defArgs (top 12), defBody (top 12), defScope (top 12), [], []⟩
def d13 : He.DefD := ⟨("is_width", none), "is_width", "is_width", defArgs (top 13), defBody (top 13), defScope (top 13), [], []⟩
def d14 : He.DefD := ⟨("is_name", none), "is_name", "is_name", defArgs (top 14), defBody (top 14), defScope (top 14), [], []⟩
def d15 : He.DefD := ⟨("are_names", none), "are_names", "are_names", defArgs (top 15), defBody (top 15), defScope (top 15), [], []⟩
def d16 : He.DefD := ⟨("are_different", none), "are_different", "are_different", defArgs (top 16), defBody (top 16), defScope (top 16), [], []⟩
def d17 : He.DefD := ⟨("is_ascending", none), "is_ascending", "is_ascending", defArgs (top 17), defBody (top 17), defScope (top 17), [], []⟩
def d18 : He.DefD := ⟨("is_dict_from", none), "is_dict_from", "is_dict_from", defArgs (top 18), defBody (top 18), defScope (top 18), [], []⟩
def d19 : He.DefD := ⟨("is_naming", none), "is_naming", "is_naming", defArgs (top 19), defBody (top 19), defScope (top 19), [], []⟩
def d23 : He.DefD := ⟨("is_clause", none), "is_clause", "is_clause", defArgs (top 23), defBody (top 23), defScope (top 23), [], []⟩
def d24 : He.DefD := ⟨("_columns_of", none), "_columns_of", "_columns_of", defArgs (top 24), defBody (top 24), defScope (top 24), [], []⟩
def d25 : He.DefD := ⟨("_tables_of", none), "_tables_of", "_tables_of", defArgs (top 25), defBody (top 25), defScope (top 25), [], []⟩
def d26 : He.DefD := ⟨("_are_clauses", none), "_are_clauses", "_are_clauses", defArgs (top 26), defBody (top 26), defScope (top 26), [], []⟩
def d27 : He.DefD := ⟨("_are_asked", none), "_are_asked", "_are_asked", defArgs (top 27), defBody (top 27), defScope (top 27), [], []⟩
def d28 : He.DefD := ⟨("_first_ones", none), "_first_ones", "_first_ones", defArgs (top 28), defBody (top 28), defScope (top 28), [], []⟩
def d31 : He.DefD := ⟨("_law_dice", none), "_law_dice", "_law_dice", defArgs (top 31), defBody (top 31), defScope (top 31), [], []⟩
def d32 : He.DefD := ⟨("_law_roll", none), "_law_roll", "_law_roll", defArgs (top 32), defBody (top 32), defScope (top 32), [], []⟩
def d33 : He.DefD := ⟨("_law_pick", none), "_law_pick", "_law_pick", defArgs (top 33), defBody (top 33), defScope (top 33), [], []⟩
def d34 : He.DefD := ⟨("_law_mixed", none), "_law_mixed", "_law_mixed", defArgs (top 34), defBody (top 34), defScope (top 34), [], []⟩
def d35 : He.DefD := ⟨("_law_question", none), "_law_question", "_law_question", defArgs (top 35), defBody (top 35), defScope (top 35), [], []⟩
def d36 : He.DefD := ⟨("_law_made", none), "_law_made", "_law_made", defArgs (top 36), defBody (top 36), defScope (top 36), [], []⟩
def d37 : He.DefD := ⟨("_law_columns", none), "_law_columns", "_law_columns", defArgs (top 37), defBody (top 37), defScope (top 37), [], []⟩
def d38 : He.DefD := ⟨("_law_widths", none), "_law_widths", "_law_widths", defArgs (top 38), defBody (top 38), defScope (top 38), [], []⟩
def d39 : He.DefD := ⟨("_law_renamed", none), "_law_renamed", "_law_renamed", defArgs (top 39), defBody (top 39), defScope (top 39), [], []⟩
def d40 : He.DefD := ⟨("_law_names", none), "_law_names", "_law_names", defArgs (top 40), defBody (top 40), defScope (top 40), [], []⟩
def d41 : He.DefD := ⟨("_law_images", none), "_law_images", "_law_images", defArgs (top 41), defBody (top 41), defScope (top 41), [], []⟩
def d42 : He.DefD := ⟨("_law_asking", none), "_law_asking", "_law_asking", defArgs (top 42), defBody (top 42), defScope (top 42), [], []⟩
def d43 : He.DefD := ⟨("_law_drawn", none), "_law_drawn", "_law_drawn", defArgs (top 43), defBody (top 43), defScope (top 43), [], []⟩
def d44 : He.DefD := ⟨("_law_tree", none), "_law_tree", "_law_tree", defArgs (top 44), defBody (top 44), defScope (top 44), [], []⟩
def d45 : He.DefD := ⟨("_law_knotted", none), "_law_knotted", "_law_knotted", defArgs (top 45), defBody (top 45), defScope (top 45), [], []⟩
def d46 : He.DefD := ⟨("_law_any", none), "_law_any", "_law_any", defArgs (top 46), defBody (top 46), defScope (top 46), [], []⟩
def d47 : He.DefD := ⟨("_law_written", none), "_law_written", "_law_written", defArgs (top 47), defBody (top 47), defScope (top 47), [], []⟩
def d48 : He.DefD := ⟨("_law_asking_some", none), "_law_asking_some", "_law_asking_some", defArgs (top 48), defBody (top 48), defScope (top 48), [], []⟩
def d49 : He.DefD := ⟨("_law_asked", none), "_law_asked", "_law_asked", defArgs (top 49), defBody (top 49), defScope (top 49), [], []⟩
def d50 : He.DefD := ⟨("_law_checked", none), "_law_checked", "_law_checked", defArgs (top 50), defBody (top 50), defScope (top 50), [], []⟩
def d51 : He.DefD := ⟨("_law_first_ones", none), "_law_first_ones", "_law_first_ones", defArgs (top 51), defBody (top 51), defScope (top 51), [], []⟩
def d52 : He.DefD := ⟨("_law_clauses_right", none), "_law_clauses_right", "_law_clauses_right", defArgs (top 52), defBody (top 52), defScope (top 52), [], []⟩
def d53 : He.DefD := ⟨("_law_names_right", none), "_law_names_right", "_law_names_right", defArgs (top 53), defBody (top 53), defScope (top 53), [], []⟩
def d54 : He.DefD := ⟨("_law_right", none), "_law_right", "_law_right", defArgs (top 54), defBody (top 54), defScope (top 54), [], []⟩
def d55 : He.DefD := ⟨("law", none), "law", "law", defArgs (top 55), defBody (top 55), defScope (top 55), [], []⟩
def dm0 : He.DefD := ⟨("Question", some "__init__"), "__init__", "Question.__init__", defArgs (inClass (top 29) 0), defBody (inClass (top 29) 0), defScope (inClass (top 29) 0), [], []⟩
def dm11 : He.DefD := ⟨("Question", some "index"), "index", "Question.index", defArgs (inClass (top 29) 11), defBody (inClass (top 29) 11), defScope (inClass (top 29) 11), [], []⟩
def dm13 : He.DefD := ⟨("Question", some "with_clause"), "with_clause", "Question.with_clause", defArgs (inClass (top 29) 13), defBody (inClass (top 29) 13), defScope (inClass (top 29) 13), [], []⟩
def dm14 : He.DefD := ⟨("Question", some "without_clause"), "without_clause", "Question.without_clause", defArgs (inClass (top 29) 14), defBody (inClass (top 29) 14), defScope (inClass (top 29) 14), [], []⟩
def dm15 : He.DefD := ⟨("Question", some "asking"), "asking", "Question.asking", defArgs (inClass (top 29) 15), defBody (inClass (top 29) 15), defScope (inClass (top 29) 15), [], []⟩
def dm16 : He.DefD := ⟨("Question", some "renamed"), "renamed", "Question.renamed", defArgs (inClass (top 29) 16), defBody (inClass (top 29) 16), defScope (inClass (top 29) 16), [], []⟩
def dm17 : He.DefD := ⟨("Question", some "retabled"), "retabled", "Question.retabled", defArgs (inClass (top 29) 17), defBody (inClass (top 29) 17), defScope (inClass (top 29) 17), [], []⟩
def dm18 : He.DefD := ⟨("Question", some "folded"), "folded", "Question.folded", defArgs (inClass (top 29) 18), defBody (inClass (top 29) 18), defScope (inClass (top 29) 18), [], []⟩
def dm19 : He.DefD := ⟨("Question", some "__add__"), "__add__", "Question.__add__", defArgs (inClass (top 29) 19), defBody (inClass (top 29) 19), defScope (inClass (top 29) 19), [], []⟩
def dm23 : He.DefD := ⟨("Question", some "__eq__"), "__eq__", "Question.__eq__", defArgs (inClass (top 29) 23), defBody (inClass (top 29) 23), defScope (inClass (top 29) 23), [], []⟩
def dm24 : He.DefD := ⟨("Question", some "__str__"), "__str__", "Question.__str__", defArgs (inClass (top 29) 24), defBody (inClass (top 29) 24), defScope (inClass (top 29) 24), [], []⟩
def fn0a : List He.DefD := [d11, d12, d13, d14, d15, d16, d17, d18, d19, d23, d24, d25]
def fn0b : List He.DefD := [d26, d27, d28, d31, d32, d33, d34, d35, d36, d37, d38, d39]
def fn0c : List He.DefD := [d40, d41, d42, d43, d44, d45, d46, d47, d48, d49, d50, d51]
def fn0d : List He.DefD := [d52, d53, d54, d55, dm0, dm11, dm13, dm14, dm15, dm16, dm17, dm18]
def fn0e : List He.DefD := [dm19, dm23, dm24]
def fn0 : List He.DefD := fn0a ++ fn0b ++ fn0c ++ fn0d ++ fn0e
def caQ (K : PySem.W.Frag) : Addr := He.ga K "Question"
/-- a property's function -/
def gG (K : PySem.W.Frag) (f : Str) : Addr := He5.wf K (caQ K) "property" f
def dg2 : He5.DefA := ⟨fun K => gG K "clauses", "clauses", "Question.clauses", defArgs (inClass (top 29) 2), defBody (inClass (top 29) 2), defScope (inClass (top 29) 2), [], []⟩
def dg3 : He5.DefA := ⟨fun K => gG K "asked", "asked", "Question.asked", defArgs (inClass (top 29) 3), defBody (inClass (top 29) 3), defScope (inClass (top 29) 3), [], []⟩
def fg0a : List He5.DefA := [dg2, dg3]
def fg0 : List He5.DefA := fg0a
def prNa : List PySem.Str := [("clauses" : PySem.Str), ("asked" : PySem.Str)]
def prN : List PySem.Str := prNa
def prB (K : PySem.W.Frag) (f : Str) : Bool := decide (PySem.W.findIn K (.ref (caQ K)) f = some (some (.ref (He.ma K (caQ K) f)))) && (decide (PySem.W.specialIn K (.ref (He.ma K (caQ K) f)) "__get__" = some (some (.builtin "property.__get__"))) &&
  (decide (PySem.W.takesIn K (.ref (He.ma K (caQ K) f)) = some true) && (match PySem.W.recIn K (He.ma K (caQ K) f) "property" with
  | some (.ref _ :: _) => true
  | _ => false)))
def ex1 (K : PySem.W.Frag) : Bool := decide (PySem.W.findIn K (.ref (caQ K)) "__class__" = some (some (.builtin "object.__class__"))) && (decide (PySem.W.specialIn K (.builtin "object.__class__") "__get__" = some (some (.builtin "getset_descriptor.__get__"))) &&
  (decide (PySem.W.takesIn K (.builtin "object.__class__") = some true) && (decide (PySem.W.mroIn K (caQ K) (.type "object") = some true) && (decide (PySem.W.kitOne K (.ref (caQ K)) (.ref (caQ K)) = some true) && (decide (PySem.W.kitOne K (.type "tuple") (.ref (caQ K)) = some false) &&
  (decide (PySem.W.kitOne K (.type "NoneType") (.ref (caQ K)) = some false) && decide (PySem.W.kitOne K (.type "str") (.ref (caQ K)) = some false)))))))
/-- the defs with lambdas: their code objects have tables of their own -/
def tA (K : PySem.W.Frag) : Addr × Addr := He.cT K ("_law_clauses_right", none)
def tB (K : PySem.W.Frag) : Addr × Addr := He.cT K ("_law_names_right", none)
def tC0 (K : PySem.W.Frag) : Addr × Addr := He.cT K ("_law_right", none)
def ex2 (K : PySem.W.Frag) : Bool := decide (PySem.W.findIn K (.ref (caQ K)) "__ne__" = some (some (.builtin "object.__ne__"))) && (PySem.W.notFirst K (caQ K) (.ref (caQ K)) && (PySem.W.selfFirst K (caQ K) &&
  (decide ((tA K).2 ≠ (tB K).2) && (decide ((tA K).2 ≠ (tC0 K).2) && decide ((tB K).2 ≠ (tC0 K).2)))))
def ex0 (K : PySem.W.Frag) : Bool := prN.all (prB K) && (ex1 K && ex2 K)
def tf0 : List He.Defn := [("_law_clauses_right", none), ("_law_names_right", none), ("_law_right", none)]
def cs0 (K : PySem.W.Frag) : List (Addr × Addr) := [tA K, tB K, tC0 K]
def T0 (K : PySem.W.Frag) : List (Addr × Str) := [((tA K).2, "_law_clauses_right.<locals>.<lambda>"), ((tB K).2, "_law_names_right.<locals>.<lambda>"), ((tC0 K).2, "_law_right.<locals>.<lambda>")]
def nG : Nat := 6
/-! ### the Hook: names, one Bool, and the functions of properties -/
def obY (g : Addr → Option Obj) : He.AlX × He.AlD := (He.obsX nG fa0 fn0 [] tf0 ex0 g, He5.obsA [] fg0 (He.frT g (He.asD g nG)))
def hkY : PySem.W.Hook where
  α := He.AlX × He.AlD
  obs := fun s => obY s.heap.get?
  val := fun w => (He.valX fn0 [] w, He5.valA fg0)
  says := fun w h => ∃ K : PySem.W.Frag, K.In h ∧ He.SaysX fa0 fn0 [] tf0 ex0 w h K ∧ He5.SaysA [] fg0 K
  of := fun _ _ e => ⟨_, He.frT_in, He.saysX_of (Prod.mk.inj e).1, (Prod.mk.inj e).2⟩
  keeps := fun _ _ _ ⟨K, hK, c, d⟩ k => ⟨K, PySem.W.Frag.In.keeps hK k, ⟨c.t, c.more, c.hd, c.out, fun p hp => k _ _ (c.empty p hp)⟩, d⟩
abbrev Rw : PySem.W.OpenRow := PySem.W.OpenLaw.row PySem.Challenge.rw_joinhouse_k04_whole_questions_changed
abbrev qv0 : Program := PySem.W.view Rw.prog [55]
def ob0 (s : PySem.W.SharedT) : He.AlX × He.AlD := obY (HandSHeadRun.getT s)
theorem ob0_eq (s : PySem.W.SharedT) : ob0 s = hkY.obs s.abs := by
  have e : HandSHeadRun.getT s = s.abs.heap.get? := funext (HandSHeadRun.getT_eq s)
  show obY (HandSHeadRun.getT s) = obY s.abs.heap.get?
  rw [e]
noncomputable abbrev wh0 (w : World) := HandSHeadRun.wholeF (fun p => HandSHeadRun.stepQ (HandSHeadRun.denQ HandSHeadRun.tabQ) p w) HandSHeadRun.fenceQ 60000 Rw.prog

end K0

/-! ## U1 -/
set_option maxRecDepth 100000
set_option maxHeartbeats 0
namespace K0
open PySem L2
theorem run12 (w : World) : ((wh0 w).map fun x => (HandSHeadRun.looksF Rw.prog x.1.heap x.2.abs, HandSHeadRun.seenQ qv0 loose0 (importedModules Rw.prog.main.body) (fun s => PySem.W.xlAt qv0 [] s && PySem.W.recOk Rw.toRowW.records s) x.2.abs)) = some (true, PySem.W.openGood qv0 loose0) := by kernel_rfl
theorem run3a (w : World) : ((wh0 w).map fun x => ((ob0 x.2).1.1.1.1, (ob0 x.2).1.2)) = some (true, true) := by kernel_rfl
theorem run3b (w : World) : ((wh0 w).map fun x => (ob0 x.2).1.1.1.2) = some (fn0.map He.DefD.val) := by kernel_rfl
theorem run3c (w : World) : ((wh0 w).map fun x => (ob0 x.2).2) = some (He5.valA fg0) := by kernel_rfl
theorem val0 (w : World) (y : He.AlX × He.AlD) (h1 : y.1.1.1.1 = true) (h2 : y.1.1.1.2 = fn0.map He.DefD.val) (h3 : y.1.1.2 = []) (h4 : y.1.2 = true) (h5 : y.2 = He5.valA fg0) : y = ((He.valT fn0 [] w, true), He5.valA fg0) := by
  obtain ⟨⟨⟨⟨y1, y2⟩, y3⟩, y4⟩, y5⟩ := y
  dsimp only at h1 h2 h3 h4 h5
  rw [h1, h2, h3, h4, h5]
  rfl
theorem ob0_nil (s : PySem.W.SharedT) : (ob0 s).1.1.2 = [] := rfl
/-- what is told of one run, put together -/
theorem run0 (w : World) : HandSHeadRun.RunEqI Rw qv0 hkY ob0 60000 loose0 w := by
  obtain ⟨x, e, e1⟩ := Option.map_eq_some_iff.mp (run12 w)
  have e2 := run3a w
  have e3 := run3b w
  have e6 := run3c w
  rw [e] at e2 e3 e6
  have h2 : ((ob0 x.2).1.1.1.1, (ob0 x.2).1.2) = (true, true) := Option.some.inj e2
  have h3 : (ob0 x.2).1.1.1.2 = fn0.map He.DefD.val := Option.some.inj e3
  have h6 : (ob0 x.2).2 = He5.valA fg0 := Option.some.inj e6
  have h57 := Prod.mk.inj h2
  have h4 : ob0 x.2 = ((He.valT fn0 [] w, true), He5.valA fg0) := val0 w (ob0 x.2) h57.1 h3 (ob0_nil x.2) h57.2 h6
  have e4 := congrArg Prod.fst e1
  have e5 := congrArg Prod.snd e1
  unfold wh0 at e
  unfold HandSHeadRun.RunEqI
  rw [e]
  exact congrArg some (Prod.ext e4 (Prod.ext e5 h4))
end K0

/-! ## B1 -/
set_option maxRecDepth 100000
set_option maxHeartbeats 2000000
noncomputable section
namespace K0
open PySem PySem.Spec PyProof.Rows L2
def keyT (e : Int × Value) : Str := match e.2 with | .str k _ => k | _ => Str.empty
def GoodT (w : World) (e : Int × Value) : Prop := ∃ k tk, e.2 = Value.str k tk ∧ e.1 = hashStr w k

/-- the set of ints at a: S its members, n their number; its table rises and can be walked -/
def SetT (w : World) (h : Heap) (a : Addr) (S : Str → Bool) (n : Nat) : Prop :=
  ∃ o es ep t, h.get? a = some o ∧ o.ExactSet ∧ o.data = .set es ep t ∧ (∀ e ∈ es.toList, GoodT w e) ∧ (es.toList.map keyT).Nodup ∧ (∀ k, S k = true ↔ k ∈ es.toList.map keyT) ∧
    es.size < scanBound ∧ t.fits es.size = true ∧ es.size = n ∧ Ris t.place.toList ∧ (w.params.followText "set-order" = true ∨ t.led = true)

section
variable {P : Program} {w : World} {h h' : Heap} {a : Addr} {S : Str → Bool} {n : Nat}

theorem SetT.at (R : SetT w h a S n) (k : ∀ o, h.get? a = some o → h'.get? a = some o) : SetT w h' a S n := by
  obtain ⟨o, es, ep, t, ho, r⟩ := R
  exact ⟨o, es, ep, t, k o ho, r⟩
theorem SetT.lt (R : SetT w h a S n) : a < h.objs.size := by
  obtain ⟨o, es, ep, t, ho, r⟩ := R
  exact Heap.lt_size ho
theorem SetT.congr {S' : Str → Bool} (R : SetT w h a S n) (e : ∀ k, S' k = S k) : SetT w h a S' n := by
  have q : S' = S := funext e
  rw [q]; exact R
theorem goodT_elems {l : List (Int × Value)} (g : ∀ e ∈ l, GoodT w e) : ElemsOf (strKind P w) l := fun e he => by
  obtain ⟨k, tk, h1, h2⟩ := g e he
  exact ⟨⟨k, by rw [h1]; exact strKind_is P w k tk, h2⟩, by rw [h1] <;> rfl⟩
theorem goodT_is {e : Int × Value} (g : GoodT w e) (k : Str) : (strKind P w).is k e.2 = true ↔ keyT e = k := by
  obtain ⟨k0, tk, h1, _⟩ := g
  unfold keyT
  rw [h1]
  show (Value.isStrOf k (.str k0 tk) = true) ↔ k0 = k
  simp only [Value.isStrOf, beq_iff_eq, decide_eq_true_eq]
theorem goodT_mem {l : List (Int × Value)} (g : ∀ e ∈ l, GoodT w e) (k : Str) : k ∈ l.map keyT ↔ ∃ e ∈ l, (strKind P w).is k e.2 = true := by
  rw [List.mem_map]
  constructor
  · rintro ⟨e, he, q⟩
    exact ⟨e, he, (goodT_is (g e he) k).2 q⟩
  · rintro ⟨e, he, q⟩
    exact ⟨e, he, (goodT_is (g e he) k).1 q⟩
theorem SetT.setOf (R : SetT w h a S n) : h.SetOf (strKind P w) a S n := by
  obtain ⟨o, es, ep, t, ho, hx, hd, g, nd, hm, hb, hf, hn, _⟩ := R
  exact ⟨o, es, ep, t, ho, hx, hd, goodT_elems g, fun k => (hm k).trans (goodT_mem g k), hb, hf, hn⟩
end

section
variable {P : Program} {w : World} {A : Around} {E : Value → Shared → Prop} {s : Shared} {a : Addr} {S : Str → Bool} {n : Nat}

/-! ### add -/
theorem setT_add_tail {g : Bool → Sem Unit} (hg : ∀ (b : Bool) (s₁ : Shared) (Q' : Unit → Shared → Prop), Q' () s₁ → wpAny (model P w) A (g b) Q' E s₁)
    {o : Obj} {es : Array (Int × Value)} {ep : Nat} {t : SetTable} (ho : s.heap.get? a = some o) (hex : o.ExactSet) (hd : o.data = .set es ep t)
    {es1 : Array (Int × Value)} {t2 : SetTable} {S' : Str → Bool} (g1 : ∀ e ∈ es1.toList, GoodT w e) (nd1 : (es1.toList.map keyT).Nodup) (m1 : ∀ k, S' k = true ↔ k ∈ es1.toList.map keyT)
    (hb1 : es1.size < scanBound) (hf2 : t2.fits es1.size = true) (hr : Ris t2.place.toList) (hl : w.params.followText "set-order" = true ∨ t2.led = true) {wasDummy : Bool} {R : Option Bool → Shared → Prop}
    (hR : ∀ h', Heap.SameBut a s.heap h' → SetT w h' a S' es1.size → R (some true) { s with heap := h' }) :
    wpAny (model P w) A (do
        storeSet a es1 t2
        if (!wasDummy && t2.tooFull) = true then do
            g (relayAll t2 es1 (SetTable.grown es1.size)).2.2
            storeSet a (relayAll t2 es1 (SetTable.grown es1.size)).1 (relayAll t2 es1 (SetTable.grown es1.size)).2.1
            pure (some true)
          else pure (some true)) R E s := by
  refine wpAny_bind (wpAny_storeSet_of ho hd ?_ (fits_of_scanBound hb1))
  have ho1 := store_at (es' := es1) (t' := t2) ho hd
  have sb1 := Heap.SameBut.update s.heap a (Obj.putSet es1 t2)
  split
  · have pm := relayAll_perm t2 es1 (SetTable.grown es1.size)
    have hf3 := relayAll_fits t2 es1 (SetTable.grown es1.size)
    have hr3 := relayAll_ris t2 es1 (SetTable.grown es1.size)
    have hl3 := relayAll_led t2 es1 (SetTable.grown es1.size)
    generalize relayAll t2 es1 (SetTable.grown es1.size) = Z at pm hf3 hr3 hl3 ⊢
    obtain ⟨es2, t3, gave⟩ := Z
    dsimp only at pm hf3 hr3 hl3 ⊢
    have hsz : es2.size = es1.size := by rw [← Array.length_toList, pm.length_eq, Array.length_toList]
    have hb2 : es2.size < scanBound := by rw [hsz]; exact hb1
    refine wpAny_bind (hg _ _ _ ?_)
    refine wpAny_bind (wpAny_storeSet_of ho1 rfl ?_ (fits_of_scanBound hb2))
    have ho2 := store_at (es' := es2) (t' := t3) ho1 rfl
    refine wpAny_pure (hR _ (sb1.trans (Heap.SameBut.update _ a _)) ?_)
    exact ⟨_, es2, _, t3, ho2, hex, rfl, fun e he => g1 e (pm.mem_iff.mp he), (pm.map keyT).nodup_iff.mpr nd1, fun k => (m1 k).trans (pm.map keyT).mem_iff.symm, hb2, hf3, hsz, hr3,
      hl.imp id fun z => by rw [hl3]; exact z⟩
  · exact wpAny_pure (hR _ sb1 ⟨_, es1, _, t2, ho1, hex, rfl, g1, nd1, m1, hb1, hf2, rfl, hr, hl⟩)

theorem setT_add_hashed {k : Str} {tk : Tok} {Q : Bool → Shared → Prop} (R : SetT w s.heap a S n) (room : n + 1 < scanBound)
    (hQ : ∀ h', Heap.SameBut a s.heap h' → SetT w h' a (fun j => S j || decide (j = k)) (if S k = true then n else n + 1) → Q (!S k) { s with heap := h' }) :
    wpAny (model P w) A (setAddHashed a (.str k tk) ((strKind P w).hash k)) Q E s := by
  obtain ⟨o, es, ep, t, ho, hex, hd, g, nd, hm, hb, hf, hn, hr, hl⟩ := R
  have hkey : (strKind P w).is k (.str k tk) = true := strKind_is P w k tk
  have hsc : (Value.str k tk).scannable = true := rfl
  have hel : ElemsOf (strKind P w) es.toList := goodT_elems g
  unfold setAddHashed setAddHashedIn
  refine wpAny_holding (wpAny_bind (wpAny_setState_of ho hd hf ?_))
  dsimp only
  rw [byScan_of hsc hb hel]
  simp only [↓reduceIte]
  unfold setAddByScan
  refine wpAny_bind ?_
  refine wpAny_bind (wpAny_rule ?_)
  refine wpAny_bind (wpAny_setScan_of hkey ho hd hf hel ?_)
  cases hfi : List.findIdx? (fun e => (strKind P w).is k e.2) es.toList with
  | some j =>
    dsimp only
    obtain ⟨hj, pj, _⟩ := List.findIdx?_eq_some_iff_getElem.mp hfi
    have hSk : S k = true := (hm k).2 ((goodT_mem (P := P) (w := w) g k).2 ⟨es.toList[j], List.getElem_mem hj, pj⟩)
    refine wpAny_pure (wpAny_pure ?_)
    have q := hQ s.heap (Heap.SameBut.refl a s.heap) ⟨o, es, ep, t, ho, hex, hd, g, nd, fun i => by
      rw [Bool.or_eq_true, decide_eq_true_eq, ← hm i]
      exact ⟨fun z => z.elim id (fun e => e ▸ hSk), .inl⟩, hb, hf, by rw [if_pos hSk]; exact hn, hr, hl⟩
    rw [hSk] at q
    exact q
  | none =>
    dsimp only
    have hnk : k ∉ es.toList.map keyT := fun z => by
      obtain ⟨e, he, q⟩ := (goodT_mem (P := P) (w := w) g k).1 z
      have c := List.findIdx?_eq_none_iff.mp hfi e he
      rw [q] at c
      cases c
    have hSk : S k = false := by
      cases q : S k with
      | false => rfl
      | true => exact absurd ((hm k).1 q) hnk
    have hgw : ∀ (b : Bool) {s₁ : Shared} {Q' : Unit → Shared → Prop}, Q' () s₁ → wpAny (model P w) A (match b with | true => rule "set.scan.the-table-gave-way" | false => pure ()) Q' E s₁ :=
      fun b s₁ Q' q => by cases b <;> first | exact wpAny_pure q | exact wpAny_rule q
    have pm := layNew_perm t es ((strKind P w).hash k) (.str k tk)
    have hf1 := layNew_fits t es ((strKind P w).hash k) (.str k tk)
    have hr1 := layNew_ris t es ((strKind P w).hash k) (.str k tk) hr
    have hl1 := layNew_led t es ((strKind P w).hash k) (.str k tk)
    generalize layNew t es ((strKind P w).hash k) (.str k tk) = Z at pm hf1 hr1 hl1 ⊢
    obtain ⟨es1, t1, wasDummy, gave⟩ := Z
    dsimp only at pm hf1 hr1 hl1 ⊢
    rw [Array.toList_push] at pm
    have pc : es1.toList.Perm (((strKind P w).hash k, Value.str k tk) :: es.toList) := pm.trans (List.perm_append_singleton _ _)
    have pk : (es1.toList.map keyT).Perm (k :: es.toList.map keyT) := pc.map keyT
    have g1 : ∀ e ∈ es1.toList, GoodT w e := fun e he => by
      rcases List.mem_cons.mp (pc.mem_iff.mp he) with z | z
      · rw [z]; exact ⟨k, tk, rfl, rfl⟩
      · exact g e z
    have nd1 : (es1.toList.map keyT).Nodup := pk.nodup_iff.mpr (List.nodup_cons.mpr ⟨hnk, nd⟩)
    have m1 : ∀ i, (S i || decide (i = k)) = true ↔ i ∈ es1.toList.map keyT := fun i => by
      rw [Bool.or_eq_true, decide_eq_true_eq, hm i, pk.mem_iff, List.mem_cons]
      exact Or.comm
    have hsz : es1.size = n + 1 := by rw [← Array.length_toList, pc.length_eq, List.length_cons, Array.length_toList, hn]
    have hb1 : es1.size < scanBound := by rw [hsz]; exact room
    have hled : w.params.followText "set-order" = true ∨ t1.led = true := hl.imp id fun z => by rw [hl1]; exact z
    have fin : ∀ h', Heap.SameBut a s.heap h' → SetT w h' a (fun j => S j || decide (j = k)) es1.size → Q true { s with heap := h' } := fun h' sb r => by
      have q := hQ h' sb
      rw [hSk] at q
      rw [hsz] at r
      exact q r
    refine wpAny_bind (hgw _ ?_)
    split
    · refine wpAny_bind ?_
      rw [hashByValue_scannable 8 hsc]
      refine wpAny_pure ?_
      refine setT_add_tail ?_ ho hex hd g1 nd1 m1 hb1 ?_ ?_ ?_ ?_
      · intro b s₁ Q' q; cases b <;> first | exact wpAny_pure q | exact wpAny_rule q
      · first | (split <;> first | exact hf1 | exact SetTable.fits_plain_off hf1) | exact hf1
      · first | (split <;> exact hr1) | exact hr1
      · first | (split <;> exact hled) | exact hled
      · intro h' sb r; dsimp only; exact wpAny_pure (fin h' sb r)
    · refine wpAny_bind (wpAny_pure ?_)
      simp only [↓reduceIte]
      refine setT_add_tail ?_ ho hex hd g1 nd1 m1 hb1 hf1 hr1 hled ?_
      · intro b s₁ Q' q; cases b <;> first | exact wpAny_pure q | exact wpAny_rule q
      · intro h' sb r; dsimp only; exact wpAny_pure (fin h' sb r)

end
theorem setT_new_at {w : World} {h : Heap} {a : Addr} {ns : List Str} (ho : h.get? a = some { cls := .type "set", dict := none, data := .set #[] 0 (.fresh 0 0 (!w.params.followText "set-order")) }) : SetT w h a (fun j => decide (j ∈ ns.take 0)) 0 :=
  ⟨_, #[], 0, _, ho, ⟨rfl, rfl, rfl⟩, rfl, (fun e he => by simp at he), (by simp), (fun k => by simp), (by decide), (by rfl), rfl, List.Pairwise.nil, by
    show _ ∨ (!w.params.followText "set-order") = true
    cases w.params.followText "set-order"
    · exact .inr rfl
    · exact .inl rfl⟩
section
variable {P : Program} {w : World} {A : Around} {E : Value → Shared → Prop} {s : Shared}
theorem set_update_txts {I : Addr} {fp wr : List Addr} {G : Array GenState → Array GenState → Prop} {n : Nat} {Pv : Nat → Value → Prop} {St : Nat → Shared → Prop} {R : Result → Shared → Prop}
    (W : WalksS P w A.in1 I fp wr G n Pv St) (S : Addr) (hSf : S ∉ fp) (ns : List Str) (hn : n = ns.length) (hb : ns.length + 1 < scanBound) (hval : ∀ i v, Pv i v → ∃ k t, ns[i]? = some k ∧ v = .str k t) :
    ∀ (k i : Nat) (s : Shared), n - i = k → i ≤ n → St i s → (∃ c, c ≤ i ∧ SetT w s.heap S (fun j => decide (j ∈ ns.take i)) c) →
      (∀ s' c, Moved (S :: wr) G s s' → c ≤ n → SetT w s'.heap S (fun j => decide (j ∈ ns)) c → R (.ok (.ret .none)) s') →
      codeAny (model P w) A (.builtin "set.update.loop" ⟨[.ref S, .ref I], []⟩) R s := by
  have hSw : S ∉ wr := fun h => hSf (W.sub _ h)
  have hsub : ∀ b ∈ wr, b ∈ S :: wr := fun b hb => List.mem_cons_of_mem _ hb
  intro k
  induction k with
  | zero =>
    intro i s hk' hi hst ⟨c, hc, hS⟩ hR
    have hin : i = n := by omega
    subst hin
    refine codeAny_builtin F.entry_set_update_loop ?_
    rw [Around.under_plainId F.plain_set_update_loop _]
    show wpAny _ A.in1 (pyNext (.ref I) >>= _) _ _ s
    refine wpAny_bind (W.done s _ _ hst fun s' hm => ?_)
    show wpAny _ A.in1 (ret Value.none) _ _ s'
    have e : ns.take i = ns := List.take_of_length_le (by omega)
    rw [e] at hS
    exact wpAny_pure (hR s' c (hm.mono hsub) hc (hS.at fun o e => hm.heap S o hSw e))
  | succ k ih =>
    intro i s hk' hi hst ⟨c, hc, hS⟩ hR
    have hlt : i < n := by omega
    refine codeAny_builtin F.entry_set_update_loop ?_
    rw [Around.under_plainId F.plain_set_update_loop _]
    show wpAny _ A.in1 (pyNext (.ref I) >>= _) _ _ s
    refine wpAny_bind (W.item i s _ _ hlt hst fun v s' hP hst' hm => ?_)
    obtain ⟨z, t, hz, rfl⟩ := hval i v hP
    have hS' : SetT w s'.heap S (fun j => decide (j ∈ ns.take i)) c := hS.at fun o e => hm.heap S o hSw e
    show wpAny _ A.in1 (holding [Value.str z t] (setAdd S (.str z t)) >>= _) _ _ s'
    refine wpAny_bind (wpAny_holding ?_)
    unfold setAdd
    refine wpAny_holding ?_
    refine wpAny_bind ((strKind P w).pyHash (k := z) (strKind_is _ _ _ _) ?_)
    refine setT_add_hashed (s := { s' with toks := s'.toks + 1 }) hS' (by omega) fun h' hsb hS2 => ?_
    have hS3 : SetT w h' S (fun j => decide (j ∈ ns.take (i + 1))) (if decide (z ∈ ns.take i) = true then c else c + 1) := hS2.congr fun j => by
      rw [List.take_add_one, hz]
      simp [List.mem_append]
    have hc3 : (if decide (z ∈ ns.take i) = true then c else c + 1) ≤ i + 1 := by
      split <;> omega
    refine wpAny_pure ⟨plainId_quiet F.plain_set_update_loop _, ih (i + 1) _ (by omega) hlt (W.frame _ s' _ _ hst' (Nat.le_succ _) fun b hb o e => ?_) ⟨_, hc3, hS3⟩ fun s'' c2 hm'' hc'' hS'' => ?_⟩
    · rw [hsb.2 b (fun h : b = S => hSf (by rw [← h]; exact hb))]; exact e
    · refine hR s'' c2 (Moved.trans W.gtrans ((hm.mono hsub).then_heap (Nat.le_succ _) fun b o hb e => ?_) hm'') hc'' hS''
      rw [hsb.2 b (fun h : b = S => hb (by rw [h]; exact List.mem_cons_self))]; exact e

set_option maxRecDepth 100000 in
set_option maxHeartbeats 3200000 in
theorem call_set_tupT {l : Addr} {items : Array Value} (ns : List Str) {Q : Value → Shared → Prop} (hh : A.handled = none) (hl : s.heap.IsTuple l items) (hit : StrsAre items.toList ns) (hb : ns.length + 1 < scanBound)
    (h : ∀ (h' : Heap) (tk c : Nat), SetT w h' s.heap.objs.size (fun j => decide (j ∈ ns)) c → c ≤ ns.length → (∀ b o, s.heap.get? b = some o → h'.get? b = some o) → Q (.ref s.heap.objs.size) { s with heap := h', toks := tk }) :
    wpAny (model P w) A (call (.type "set") [.ref l]) Q E s := by
  have hisz : items.size = ns.length := by
    have q := StrsAre.length hit
    rw [Array.length_toList] at q
    exact q
  obtain ⟨c, tl, hmro⟩ := F.called_set.mro
  have hmade := F.called_set.made
  have hsub := F.called_set.sub
  refine wpAny_call (codeAny_of_tree ?_)
  show wpAny _ _ (callAny (.type "set") _) _ _ _
  refine wpAny_pure ⟨Code.quiet_builtin _ (by decide +kernel), codeAny_builtin F.entry_type_call ?_⟩
  rw [Around.under_plain (weight_type_call_type "set" [.ref l] []) rfl]
  have h1 := F.called_set.notType
  have h2 := F.called_set.canCreate
  have hct := F.typeCall_set_1 (.ref l)
  repeat (any_goals (first | assumption | wp_step))

  refine codeAny_mono (code_set_led1 (.ref l) (E := E) (Q₁ := fun obj s₁ => obj = .ref s.heap.objs.size ∧ s₁ = { s with heap := s.heap.push { cls := .type "set", dict := none, data := .set #[] 0 (.fresh 0 0 (!w.params.followText "set-order")) } }) ⟨rfl, rfl⟩) fun r s₁ hr => ?_
  cases r with
  | error e => exact hr
  | ok fl =>
    cases fl with
    | ret obj =>
      obtain ⟨rfl, rfl⟩ := hr
      have hS : (s.heap.push { cls := .type "set", dict := none, data := .set #[] 0 (.fresh 0 0 (!w.params.followText "set-order")) }).get? s.heap.objs.size = some { cls := .type "set", dict := none, data := .set #[] 0 (.fresh 0 0 (!w.params.followText "set-order")) } := Heap.get?_push_size _ rfl
      have hT : Shared.TypeIs { s with heap := s.heap.push { cls := .type "set", dict := none, data := .set #[] 0 (.fresh 0 0 (!w.params.followText "set-order")) } } (.ref s.heap.objs.size) "set" := ⟨_, hS, rfl⟩
      have hli := F.called_set.init.lookup
      have hbi := F.called_set.init.bind (.ref s.heap.objs.size)
      repeat (any_goals (first | assumption | wp_step))

      refine codeAny_mono (codeAny_call_builtin (R := wants (fun r s₂ => r = .none ∧ ∃ h' tk c, s₂ = { s with heap := h', toks := tk } ∧ SetT w h' s.heap.objs.size (fun j => decide (j ∈ ns)) c ∧ c ≤ ns.length ∧
          (∀ b o, s.heap.get? b = some o → h'.get? b = some o)) E) F.called_set.init.plain F.entry_set_init (check_set_init_1 hT ?_)) fun r₂ s₂ hr₂ => ?_
      · obtain ⟨ol, hol, hcl, nl, hdl⟩ := hl
        obtain ⟨ocls, odict, odata, oslots⟩ := ol
        simp only at hcl hdl
        subst hcl; subst hdl
        have hol' : (s.heap.push { cls := .type "set", dict := none, data := .set #[] 0 (.fresh 0 0 (!w.params.followText "set-order")) }).get? l = some { cls := .type "tuple", dict := odict, data := .seq items nl, slots := oslots } := Heap.get?_push_of_some _ hol
        have hsls := F.sub_tuple_set
        have hslf := F.sub_tuple_frozenset
        have hne : (Value.type "tuple" == Value.type "dict") = false := by decide
        have hl1 : (s.heap.push { cls := .type "set", dict := none, data := .set #[] 0 (.fresh 0 0 (!w.params.followText "set-order")) }).IsTuple l items := ⟨_, hol', rfl, nl, rfl⟩
        unfold Builtin.«set.__init__» noKeywords Builtin.Frozenset.updateFrom
        generalize hPI : pyIter = PI
        wp_walk
        subst hPI

        refine wpAny_pyIter_tuple hl1 ?_
        refine wpAny_bind (wpAny_runValue ?_)
        have hlS : l < s.heap.objs.size := Heap.lt_size hol
        have hh3 : A.in1.in1.in1.handled = none := by simp [hh]
        have hz1 : (s.heap.push { cls := .type "set", dict := none, data := .set #[] 0 (.fresh 0 0 (!w.params.followText "set-order")) }).objs.size = s.heap.objs.size + 1 := Heap.size_push ..
        have hneI : l ≠ (s.heap.push { cls := .type "set", dict := none, data := .set #[] 0 (.fresh 0 0 (!w.params.followText "set-order")) }).objs.size := by
          rw [Heap.size_push]; exact Nat.ne_of_lt (Nat.lt_succ_of_lt hlS)
        have hSf : s.heap.objs.size ∉ [(s.heap.push { cls := .type "set", dict := none, data := .set #[] 0 (.fresh 0 0 (!w.params.followText "set-order")) }).objs.size, l] := by
          rw [Heap.size_push]; simp only [List.mem_cons, List.mem_singleton, List.not_mem_nil, or_false, not_or]
          exact ⟨Nat.ne_of_lt (Nat.lt_succ_self _), Nat.ne_of_gt hlS⟩
        have hval : ∀ (i : Nat) (v : Value), items[i]? = some v → ∃ k t, ns[i]? = some k ∧ v = .str k t := fun i v hv => by
          have hi : i < ns.length := by rw [← hisz]; exact (Array.getElem?_eq_some_iff.mp hv).1
          obtain ⟨t, e⟩ := SS.strs_at hit i v (by rw [Array.getElem?_toList]; exact hv)
          refine ⟨ns[i], t, List.getElem?_eq_getElem hi, ?_⟩
          rw [e, List.getD_eq_getElem?_getD, List.getElem?_eq_getElem hi] <;> rfl
        refine set_update_txts ((Walks.tuple hh3 _ l hneI items).toS) s.heap.objs.size
          hSf ns hisz hb hval (items.size - 0) 0 _ (by omega) (Nat.zero_le _)
          ⟨⟨_, Heap.get?_push_size _ rfl, rfl, rfl⟩, (hl1.push _)⟩ ?hS0 ?hR
        case hS0 =>
          have hget : ((s.heap.push { cls := .type "set", dict := none, data := .set #[] 0 (.fresh 0 0 (!w.params.followText "set-order")) }).push { cls := .type "tuple_iterator", data := .fields #[.ref l, .int 0 0] }).get? s.heap.objs.size
              = some { cls := .type "set", dict := none, data := .set #[] 0 (.fresh 0 0 (!w.params.followText "set-order")) } := Heap.get?_push_of_some _ hS
          exact ⟨0, Nat.le_refl 0, setT_new_at hget⟩
        case hR =>
          intro s' c' hm hc' hS'
          obtain ⟨h', g2, d', tk', os'⟩ := s'
          have eg : g2 = s.gens := hm.gens
          have ed : d' = s.drawn := hm.drawn
          have eo : os' = s.os := hm.os
          subst eg; subst ed; subst eo
          show wpAny _ _ _ _ _ _
          refine wpAny_pure ?_
          show wpAny _ _ (ret Value.none) _ _ _
          rw [hisz] at hc'
          refine wpAny_pure ⟨rfl, h', tk', c', rfl, hS', hc', fun b o e => ?_⟩
          have hb0 : b < s.heap.objs.size := Heap.lt_size e
          have hb1 : b ≠ s.heap.objs.size := Nat.ne_of_lt hb0
          have hb2 : b ≠ (s.heap.push { cls := .type "set", dict := none, data := .set #[] 0 (.fresh 0 0 (!w.params.followText "set-order")) }).objs.size := by
            rw [Heap.size_push]; exact Nat.ne_of_lt (Nat.lt_succ_of_lt hb0)
          exact hm.heap b o (by simp only [List.mem_cons, List.mem_singleton, List.not_mem_nil, or_false, not_or]; exact ⟨hb1, hb2⟩) (Heap.get?_push_of_some _ (Heap.get?_push_of_some _ e))

      · cases r₂ with
        | error e => exact hr₂
        | ok fl₂ =>
          cases fl₂ with
          | ret r =>
            obtain ⟨rfl, h', tk, c', rfl, hS', hc', hk'⟩ := hr₂
            repeat (any_goals (first | assumption | wp_step))
            exact h _ _ _ hS' hc' hk'
          | _ => exact hr₂.elim
    | _ => exact hr.elim

end

end K0

/-! ## B2 -/
set_option maxRecDepth 100000
set_option maxHeartbeats 2000000
noncomputable section
namespace K0
open PySem PySem.Spec PyProof.Rows L2
section
variable {P : Program} {w : World} {A : Around} {E : Value → Shared → Prop} {s : Shared}
set_option maxHeartbeats 3200000 in
theorem call_set_listT {l : Addr} {items : Array Value} (ns : List Str) {Q : Value → Shared → Prop} (hh : A.handled = none) (hl : s.heap.IsList l items) (hit : StrsAre items.toList ns) (hb : ns.length + 1 < scanBound)
    (h : ∀ (h' : Heap) (tk c : Nat), SetT w h' s.heap.objs.size (fun j => decide (j ∈ ns)) c → c ≤ ns.length → (∀ b o, s.heap.get? b = some o → h'.get? b = some o) → Q (.ref s.heap.objs.size) { s with heap := h', toks := tk }) :
    wpAny (model P w) A (call (.type "set") [.ref l]) Q E s := by
  have hisz : items.size = ns.length := by
    have q := StrsAre.length hit
    rw [Array.length_toList] at q
    exact q
  obtain ⟨c, tl, hmro⟩ := F.called_set.mro
  have hmade := F.called_set.made
  have hsub := F.called_set.sub
  refine wpAny_call (codeAny_of_tree ?_)
  show wpAny _ _ (callAny (.type "set") _) _ _ _
  refine wpAny_pure ⟨Code.quiet_builtin _ (by decide +kernel), codeAny_builtin F.entry_type_call ?_⟩
  rw [Around.under_plain (weight_type_call_type "set" [.ref l] []) rfl]
  have h1 := F.called_set.notType
  have h2 := F.called_set.canCreate
  have hct := F.typeCall_set_1 (.ref l)
  repeat (any_goals (first | assumption | wp_step))

  refine codeAny_mono (code_set_led1 (.ref l) (E := E) (Q₁ := fun obj s₁ => obj = .ref s.heap.objs.size ∧ s₁ = { s with heap := s.heap.push { cls := .type "set", dict := none, data := .set #[] 0 (.fresh 0 0 (!w.params.followText "set-order")) } }) ⟨rfl, rfl⟩) fun r s₁ hr => ?_
  cases r with
  | error e => exact hr
  | ok fl =>
    cases fl with
    | ret obj =>
      obtain ⟨rfl, rfl⟩ := hr
      have hS : (s.heap.push { cls := .type "set", dict := none, data := .set #[] 0 (.fresh 0 0 (!w.params.followText "set-order")) }).get? s.heap.objs.size = some { cls := .type "set", dict := none, data := .set #[] 0 (.fresh 0 0 (!w.params.followText "set-order")) } := Heap.get?_push_size _ rfl
      have hT : Shared.TypeIs { s with heap := s.heap.push { cls := .type "set", dict := none, data := .set #[] 0 (.fresh 0 0 (!w.params.followText "set-order")) } } (.ref s.heap.objs.size) "set" := ⟨_, hS, rfl⟩
      have hli := F.called_set.init.lookup
      have hbi := F.called_set.init.bind (.ref s.heap.objs.size)
      repeat (any_goals (first | assumption | wp_step))

      refine codeAny_mono (codeAny_call_builtin (R := wants (fun r s₂ => r = .none ∧ ∃ h' tk c, s₂ = { s with heap := h', toks := tk } ∧ SetT w h' s.heap.objs.size (fun j => decide (j ∈ ns)) c ∧ c ≤ ns.length ∧
          (∀ b o, s.heap.get? b = some o → h'.get? b = some o)) E) F.called_set.init.plain F.entry_set_init (check_set_init_1 hT ?_)) fun r₂ s₂ hr₂ => ?_
      · obtain ⟨ol, hol, hcl, nl, hdl⟩ := hl
        obtain ⟨ocls, odict, odata, oslots⟩ := ol
        simp only at hcl hdl
        subst hcl; subst hdl
        have hol' : (s.heap.push { cls := .type "set", dict := none, data := .set #[] 0 (.fresh 0 0 (!w.params.followText "set-order")) }).get? l = some { cls := .type "list", dict := odict, data := .seq items nl, slots := oslots } := Heap.get?_push_of_some _ hol
        have hsls := F.sub_list_set
        have hslf := F.sub_list_frozenset
        have hne : (Value.type "list" == Value.type "dict") = false := by decide
        have hl1 : (s.heap.push { cls := .type "set", dict := none, data := .set #[] 0 (.fresh 0 0 (!w.params.followText "set-order")) }).IsList l items := ⟨_, hol', rfl, nl, rfl⟩
        unfold Builtin.«set.__init__» noKeywords Builtin.Frozenset.updateFrom
        generalize hPI : pyIter = PI
        wp_walk
        subst hPI

        refine wpAny_pyIter_list hl1 ?_
        refine wpAny_bind (wpAny_runValue ?_)
        have hlS : l < s.heap.objs.size := Heap.lt_size hol
        have hh3 : A.in1.in1.in1.handled = none := by simp [hh]
        have hz1 : (s.heap.push { cls := .type "set", dict := none, data := .set #[] 0 (.fresh 0 0 (!w.params.followText "set-order")) }).objs.size = s.heap.objs.size + 1 := Heap.size_push ..
        have hneI : l ≠ (s.heap.push { cls := .type "set", dict := none, data := .set #[] 0 (.fresh 0 0 (!w.params.followText "set-order")) }).objs.size := by
          rw [Heap.size_push]; exact Nat.ne_of_lt (Nat.lt_succ_of_lt hlS)
        have hSf : s.heap.objs.size ∉ [(s.heap.push { cls := .type "set", dict := none, data := .set #[] 0 (.fresh 0 0 (!w.params.followText "set-order")) }).objs.size, l] := by
          rw [Heap.size_push]; simp only [List.mem_cons, List.mem_singleton, List.not_mem_nil, or_false, not_or]
          exact ⟨Nat.ne_of_lt (Nat.lt_succ_self _), Nat.ne_of_gt hlS⟩
        have hval : ∀ (i : Nat) (v : Value), items[i]? = some v → ∃ k t, ns[i]? = some k ∧ v = .str k t := fun i v hv => by
          have hi : i < ns.length := by rw [← hisz]; exact (Array.getElem?_eq_some_iff.mp hv).1
          obtain ⟨t, e⟩ := SS.strs_at hit i v (by rw [Array.getElem?_toList]; exact hv)
          refine ⟨ns[i], t, List.getElem?_eq_getElem hi, ?_⟩
          rw [e, List.getD_eq_getElem?_getD, List.getElem?_eq_getElem hi] <;> rfl
        refine set_update_txts ((Walks.list hh3 _ l hneI items).toS) s.heap.objs.size
          hSf ns hisz hb hval (items.size - 0) 0 _ (by omega) (Nat.zero_le _)
          ⟨⟨_, Heap.get?_push_size _ rfl, rfl, rfl⟩, (hl1.push _)⟩ ?hS0 ?hR
        case hS0 =>
          have hget : ((s.heap.push { cls := .type "set", dict := none, data := .set #[] 0 (.fresh 0 0 (!w.params.followText "set-order")) }).push { cls := .type "list_iterator", data := .fields #[.ref l, .int 0 0] }).get? s.heap.objs.size
              = some { cls := .type "set", dict := none, data := .set #[] 0 (.fresh 0 0 (!w.params.followText "set-order")) } := Heap.get?_push_of_some _ hS
          exact ⟨0, Nat.le_refl 0, setT_new_at hget⟩
        case hR =>
          intro s' c' hm hc' hS'
          obtain ⟨h', g2, d', tk', os'⟩ := s'
          have eg : g2 = s.gens := hm.gens
          have ed : d' = s.drawn := hm.drawn
          have eo : os' = s.os := hm.os
          subst eg; subst ed; subst eo
          show wpAny _ _ _ _ _ _
          refine wpAny_pure ?_
          show wpAny _ _ (ret Value.none) _ _ _
          rw [hisz] at hc'
          refine wpAny_pure ⟨rfl, h', tk', c', rfl, hS', hc', fun b o e => ?_⟩
          have hb0 : b < s.heap.objs.size := Heap.lt_size e
          have hb1 : b ≠ s.heap.objs.size := Nat.ne_of_lt hb0
          have hb2 : b ≠ (s.heap.push { cls := .type "set", dict := none, data := .set #[] 0 (.fresh 0 0 (!w.params.followText "set-order")) }).objs.size := by
            rw [Heap.size_push]; exact Nat.ne_of_lt (Nat.lt_succ_of_lt hb0)
          exact hm.heap b o (by simp only [List.mem_cons, List.mem_singleton, List.not_mem_nil, or_false, not_or]; exact ⟨hb1, hb2⟩) (Heap.get?_push_of_some _ (Heap.get?_push_of_some _ e))

      · cases r₂ with
        | error e => exact hr₂
        | ok fl₂ =>
          cases fl₂ with
          | ret r =>
            obtain ⟨rfl, h', tk, c', rfl, hS', hc', hk'⟩ := hr₂
            repeat (any_goals (first | assumption | wp_step))
            exact h _ _ _ hS' hc' hk'
          | _ => exact hr₂.elim
    | _ => exact hr.elim

end
end K0

/-! ## B3 -/
set_option maxRecDepth 100000
set_option maxHeartbeats 2000000
noncomputable section
namespace K0
open PySem PySem.Spec PyProof.Rows L2
theorem txts_of : ∀ (l : List Value), (∀ v ∈ l, ∃ k tk, v = Value.str k tk) → StrsAre l (l.map strOf)
  | [], _ => .nil
  | v :: l, h => by
    obtain ⟨k, tk, rfl⟩ := h v List.mem_cons_self
    exact .cons k tk (txts_of l fun u hu => h u (List.mem_cons_of_mem _ hu))
section
variable {P : Program} {w : World} {A : Around} {E : Value → Shared → Prop} {s : Shared} {a : Addr}
theorem sorted_setT {S : Str → Bool} {n : Nat} {Q : Value → Shared → Prop} (R : SetT w s.heap a S n) (hh : A.handled = none) (h64 : n < 64)
    (hQ : ∀ s' p (out : Array Value) (c : Nat) (ns : List Str), (∀ b o, s.heap.get? b = some o → s'.heap.get? b = some o) → s'.gens = s.gens → s'.os = s.os → s.heap.objs.size ≤ p →
      s'.heap.get? p = some (seqObj "list" out c) → StrsAre out.toList ns → PyProof.Rows.sortedS ns = true → ns.Nodup → (∀ k, k ∈ ns ↔ S k = true) → ns.length = n → Q (.ref p) s') :
    wpAny (model P w) A (call (.builtin "sorted") [.ref a]) Q E s := by
  obtain ⟨o, es, ep, t, ho, hex, hd, g, nd, hm, hb, hf, hn, hr, hl⟩ := R
  refine Calls.call_function_entry kind_sorted plain_sorted entry_sorted (args_sorted1 _) ?_
  unfold Builtin.«sorted»
  refine wpAny_bind (m := checkCount "sorted" 1 1 _) (wpAny_pure ?_)
  refine wpAny_bind (collect_set (A := A.in1) hh ⟨o, ho, hex.1, hd⟩ hf hb hr hl fun s1 vs k1 hz g1 o1 pm => ?_)
  have hvl : vs.length = n := by rw [pm.length_eq, List.length_map, Array.length_toList]; exact hn
  have hI : StrsAre vs (vs.map strOf) := txts_of vs fun v hv => by
    obtain ⟨e, he, q⟩ := List.mem_map.mp (pm.mem_iff.mp hv)
    obtain ⟨k, tk, h1, _⟩ := g e he
    exact ⟨k, tk, by rw [← q]; exact h1⟩
  have pk : (vs.map strOf).Perm (es.toList.map keyT) := by
    have q := pm.map strOf
    rw [List.map_map] at q
    have e2 : es.toList.map (strOf ∘ fun x => x.2) = es.toList.map keyT := List.map_congr_left fun e he => by
      obtain ⟨k, tk, h1, _⟩ := g e he
      show strOf e.2 = keyT e
      unfold keyT
      rw [h1] <;> rfl
    exact q.trans (by rw [← e2])
  refine wpAny_bind (wpAny_newList ?_ (by rw [hvl, sizeLine_eq]; omega))
  have hoL : (s1.heap.push (seqObj "list" vs.toArray 0)).get? s1.heap.objs.size = some (seqObj "list" vs.toArray 0) := Heap.get?_push_size _ rfl
  refine wpAny_bind (wpAny_holding (wpAny_call_entry slot_list_sort ⟨_, hoL, rfl⟩ entry_list_sort (list_sort_treeK strKind_oneLt hoL hI.keysOf (fun v₁ v₂ rest e => keyKind_strs (by rw [← e]; exact hI)) (by rw [hvl]; exact h64) fun st' hp hs => ⟨_, rfl, ?_⟩) (args_list_sort _)))
  obtain ⟨ns', a1, a2, a3⟩ := sorted_out_str hI hp hs
  obtain ⟨c, hc⟩ := sortedHeap_at (vs := vs) (out := (arrOf st').map (·.2)) hoL
  have pn : ns'.Perm (es.toList.map keyT) := a2.trans pk
  refine wpAny_pure ⟨_, rfl, hQ _ s1.heap.objs.size _ c ns' (fun b u e => ?_) g1 o1 hz hc a1 a3 (pn.nodup_iff.mpr nd) (fun k => by rw [pn.mem_iff, ← hm k]) ?_⟩
  · have q := k1 b u e
    have hlt := Heap.lt_size q
    show (sortedHeap (s1.heap.push (seqObj "list" vs.toArray 0)) s1.heap.objs.size vs _).get? b = some u
    rw [sortedHeap_old (Nat.ne_of_lt hlt) (by rw [size_push']; exact Nat.lt_succ_of_lt hlt)]
    exact Heap.get?_push_of_some _ q
  · rw [pn.length_eq, List.length_map, Array.length_toList]; exact hn
end
/-! ### the rules: set(texts), len, sorted -/
def SetTO (w : World) (a : Addr) (S : Str → Bool) (n : Nat) : HO := .ext fun h => SetT w h a S n
section
variable {X : Cx}
theorem setT_at {w : World} {P : Program} {H : Hp} {h : Heap} {a : Addr} {S : Str → Bool} {n : Nat} (R : SetT w h a S n) : ObjOk P w H h a (SetTO w a S n) := by
  have ⟨o, _, _, _, ho, _⟩ := R
  exact ⟨R, ⟨o, ho⟩, fun h1 h2 p k => SetT.at p k⟩
theorem setT_get {pins : List (Addr × Obj)} {σ : L2.St} {H : Hp} {s : Shared} {a : Addr} {S : Str → Bool} {n : Nat} (I : Inv X pins σ H s) (ha : H a = some (SetTO X.w a S n)) : SetT X.w s.heap a S n := (I.hok a _ ha).1
/-- set(xs), xs a tuple or a list of texts -/
def rSetTx (K : PySem.W.Frag) (w : World) : List V → Hp → VK → Prop := fun vs H Q => ∃ (l : Addr) (xs : List Str), vs = [.ref l] ∧ (SqT K H l (xs.map V.str) ∨ SqL K H l (xs.map V.str)) ∧ xs.length ≤ 1000 ∧
  ∀ p n, n ≤ xs.length → H p = none → Q (.ref p) (upd H p (SetTO w p (fun j => decide (j ∈ xs)) n))
theorem cr_setTx (hc : X.calm = true) : CallR X (.type "set") (rSetTx X.K X.w) := by
  intro pins s σ H vs us Q I r h
  obtain ⟨l, xs, rfl, hs, hl, q⟩ := h
  rw [Vals.ref1 r]
  have hb : xs.length + 1 < scanBound := by unfold scanBound; omega
  have fin : ∀ (h' : Heap) (tk c : Nat), SetT X.w h' s.heap.objs.size (fun j => decide (j ∈ xs)) c → c ≤ xs.length → (∀ b o, s.heap.get? b = some o → h'.get? b = some o) →
      EP X pins σ Q (.ref s.heap.objs.size) { s with heap := h', toks := tk } := fun h' tk c R hc' k =>
    ⟨.ref _, upd H s.heap.objs.size (SetTO X.w s.heap.objs.size (fun j => decide (j ∈ xs)) c), I.laid (t' := tk) k (Nat.le_refl _) (setT_at R), rfl, q _ c hc' (I.hok.fresh (Nat.le_refl _))⟩
  rcases hs with hs | hs
  · obtain ⟨its, rv, ht, _⟩ := I.tuple hs
    exact call_set_tupT xs (I.ok.hd hc) ht (by simpa using rv.strs) hb fin
  · obtain ⟨its, rv, ht, _⟩ := I.list hs
    exact call_set_listT xs (I.ok.hd hc) ht.isList (by simpa using rv.strs) hb fin
/-- len(set) -/
theorem call_lenTx : CallR X (.builtin "len") (fun vs H Q => ∃ (a : Addr) (S : Str → Bool) (n : Nat), vs = [.ref a] ∧ H a = some (SetTO X.w a S n) ∧ n ≤ 1000 ∧ ((∃ L : List Str, L.Nodup ∧ (∀ k, k ∈ L ↔ S k = true) ∧ L.length = n) → Q (.int n) H)) := by
  intro pins s σ H vs us Q I r h
  obtain ⟨a, S, n, rfl, ha, hn, q⟩ := h
  rw [Vals.ref1 r]
  obtain ⟨o, es, ep, t, ho, hex, hd, g, nd, hm, hb, hf, hsz, _⟩ := setT_get I ha
  refine call_len_set ho hex hd hf (by omega) ⟨.int n, H, (I.tok _), ⟨_, by rw [hsz]⟩, q ⟨es.toList.map keyT, nd, fun k => (hm k).symm, ?_⟩⟩
  rw [List.length_map, Array.length_toList]
  exact hsz
/-- sorted(set), fewer than 64 -/
def rSortTx (w : World) : List V → Hp → VK → Prop := fun vs H Q => ∃ (a : Addr) (S : Str → Bool) (n : Nat), vs = [.ref a] ∧ H a = some (SetTO w a S n) ∧ n < 64 ∧
  ∀ (ns : List Str) (p : Addr), PyProof.Rows.sortedS ns = true → ns.Nodup → (∀ k, k ∈ ns ↔ S k = true) → ns.length = n → H p = none → Q (.ref p) (upd H p (.lst (ns.map V.str)))
theorem cr_sortTx (hc : X.calm = true) : CallR X (.builtin "sorted") (rSortTx X.w) := by
  intro pins s σ H vs us Q I r h
  obtain ⟨a, S, n, rfl, ha, h64, q⟩ := h
  have R := setT_get I ha
  rw [Vals.ref1 r]
  refine sorted_setT R (I.ok.hd hc) h64 fun s' p out c ns k g o hp hg hi hs hnd hm hl => ?_
  have hlen : (ns.map V.str).length ≤ sizeLine := by rw [List.length_map, hl, sizeLine_eq]; omega
  have hn : H p = none := I.hok.fresh hp
  have J : Inv X pins σ (upd H p (.lst (ns.map V.str))) { s with heap := s'.heap, gens := s'.gens, drawn := s'.drawn, toks := s'.toks } :=
    I.call (ch := []) (Un.laid k hp hn) (I.hok.laid k hp ⟨hlen, out.toList, c, vals_of_strs hi, hg⟩) (by rw [g]; exact I.bare) (fun _ z => nomatch z)
  have e : s' = { s with heap := s'.heap, gens := s'.gens, drawn := s'.drawn, toks := s'.toks } := by
    cases s'
    cases s
    cases o
    rfl
  rw [e]
  exact ⟨.ref p, _, J, rfl, q ns p hs hnd hm hl hn⟩
end
end K0

/-! ## B4 -/
set_option maxRecDepth 100000
set_option maxHeartbeats 2000000
noncomputable section
namespace K0
open PySem PySem.Spec PyProof.Rows L2
section
variable {P : Program} {w : World} {A : Around} {E : Value → Shared → Prop} {s : Shared} {T : String} {r d : Addr} {n : Nat} {Pv : Nat → Value → Prop} {OK : Heap → Prop}
/-- tuple(view) -/
theorem tuple_src {Q : Value → Shared → Prop} (K : PySem.W.KdlSrc P w T r d n Pv OK) (hT : s.TypeIs (.ref r) T) (hne : (Value.type T == Value.type "tuple") = false) (hh : A.handled = none) (hok : OK s.heap) (hn : n ≤ sizeLine)
    (h : ∀ (h' : Heap) (tk : Nat) (acc : Array Value), (∀ b o, s.heap.get? b = some o → h'.get? b = some o) → ItemsOf Pv acc n → Q (.ref h'.objs.size) { s with heap := h'.push { cls := .type "tuple", data := .seq acc }, toks := tk }) :
    wpAny (model P w) A (call (.type "tuple") [.ref r]) Q E s := by
  refine callType_codes (Q₁ := fun obj s₁ => s₁.TypeIs obj "tuple" ∧ Q obj s₁) F.called_tuple (F.typeCall_tuple_1 _) F.entry_object_init ?_ fun obj s₁ h₁ => ⟨h₁.1, F.args_object_init_2 obj _, object_init_meets F.called_tuple.init.lookup F.called_tuple.made (by decide) P w A.in1 _ s₁ ⟨h₁.1, rfl, h₁.2⟩⟩
  refine codeAny_of_tree ?_
  show wpAny _ A.in1.in1 (do checkBuiltinCall "tuple.__new__" ⟨[.type "tuple", .ref r], []⟩; again (.builtin "tuple.__new__" ⟨[.type "tuple", .ref r], []⟩)) _ _ s
  refine wpAny_bind (wpAny_of_eq (F.newCall_tuple_1 _) (wpAny_pure ⟨plainId_quiet F.plain_tuple_new _, codeAny_builtin F.entry_tuple_new ?_⟩))
  rw [Around.under_plainId F.plain_tuple_new _]
  have hsub := sub_tuple_self
  have hinit := init_tuple_lookup
  have hmh := madeHere_tuple
  wp_walk using wpAny_typeOf hT, PySem.W.kdu_collect K (by simpa using hh) hok hn
  intro h' tk acc hk hacc
  show wpAny _ _ (Builtin.Tuple.tupleExact acc.toList.toArray >>= fun v => ret v) _ _ _
  unfold Builtin.Tuple.tupleExact
  refine wpAny_bind (wpAny_newObj_type ?_ (by show acc.toList.toArray.size ≤ sizeLine; simp only [Array.toArray_toList]; rw [hacc.1]; exact hn))
  refine wpAny_pure ?_
  have e : acc.toList.toArray = acc := by simp
  rw [e]
  exact ⟨⟨_, Heap.get?_push_size _ rfl, rfl⟩, h h' tk acc hk hacc⟩
end
/-! ### d.values() -/
def ValO (p d : Addr) : HO := .ext fun h => h.IsValuesView p d
theorem valO_at {P : Program} {w : World} {H : Hp} {h : Heap} {p d : Addr} (e : h.IsValuesView p d) : ObjOk P w H h p (ValO p d) := by
  have ⟨o, ho, _⟩ := e
  refine ⟨e, ⟨o, ho⟩, fun h1 h2 q k => ?_⟩
  obtain ⟨o1, a1, a2⟩ := q
  exact ⟨o1, k _ a1, a2⟩
section
variable {X : Cx}
def rVals : V → List V → Hp → VK → Prop := fun x xs H Q => ∃ (d : Addr) (kvs : List (Key × V)), x = .ref d ∧ xs = [] ∧ H d = some (.dK kvs) ∧ ∀ p, H p = none → Q (.ref p) (upd H p (ValO p d))
theorem mt_dvals : MtR X "dict.values" rVals := by
  intro pins s σ H x xs v us Q I rx rxs h
  obtain ⟨d, kvs, rfl, rfl, hd, q⟩ := h
  cases rx
  cases rxs
  obtain ⟨hz, lo, vs, kv, hD⟩ := I.hok d _ hd
  exact call_meetsIn PySem.F.slot_dict_values hD.typeIs PySem.F.entry_dict_values (PySem.F.args_dict_values_1 _) (meets_dict_values (mixKind X.prog X.w) d lo)
    ⟨⟨vs, hD⟩, .ref _, upd H s.heap.objs.size (ValO s.heap.objs.size d), I.laid (t' := s.toks) (fun b u e => Heap.get?_push_of_some _ e) (Nat.le_refl _) (valO_at ⟨_, Heap.get?_push_size _ rfl, rfl, rfl⟩), rfl, q _ (I.hok.fresh (Nat.le_refl _))⟩
theorem vals_snd : ∀ {kvs : List (Key × V)} {vs : List (Key × Value)}, KV kvs vs → Vals (kvs.map (·.2)) (vs.map (·.2))
  | _, _, .nil => .nil
  | _, _, .cons r t => .cons r.2 (vals_snd t)
def rOfVals (mk : List V → HO) : List V → Hp → VK → Prop := fun xs H Q => ∃ (p d : Addr) (kvs : List (Key × V)), xs = [.ref p] ∧ H p = some (ValO p d) ∧ H d = some (.dK kvs) ∧ ∀ t, H t = none → Q (.ref t) (upd H t (mk (kvs.map (·.2))))
theorem call_tupleVals (hc : X.calm = true) : CallR X (.type "tuple") (rOfVals .tup) := by
  intro pins s σ H xs us Q I r h
  obtain ⟨p, d, kvs, rfl, hp, hd, q⟩ := h
  rw [Vals.ref1 r]
  obtain ⟨hz, lo, vs, kv, hD⟩ := I.hok d _ hd
  have hv : s.heap.IsValuesView p d := (I.hok p _ hp).1
  obtain ⟨ep, hat⟩ := hD.dictAt
  have lk : kvs.length = vs.length := Paired.length kv
  refine tuple_src (PySem.W.kdl_values (knd := mixKind X.prog X.w) (kvs := vs) (ep := ep)) hv.typeIs (by decide) (I.ok.hd hc) ⟨hv, hat⟩ (by omega) fun h' tk acc hk hacc => ?_
  have e : acc.toList = vs.map (·.2) := PySem.W.kdl_vals_eq acc.toList (by rw [Array.length_toList]; exact hacc.1) fun j v e => hacc.2 j v (by rw [← Array.getElem?_toList]; exact e)
  have I1 : Inv X pins σ H { s with heap := h', toks := tk } := I.kept hk
  exact ⟨.ref _, upd H h'.objs.size (.tup (kvs.map (·.2))), I1.laid (t' := tk) (fun b u e => Heap.get?_push_of_some _ e) (Nat.le_refl _) ⟨by rw [List.length_map]; omega, acc.toList, by rw [e]; exact vals_snd kv, ⟨_, Heap.get?_push_size _ rfl, rfl, _, rfl⟩⟩, rfl, q _ (I1.hok.fresh (Nat.le_refl _))⟩
theorem call_listVals (hc : X.calm = true) : CallR X (.type "list") (rOfVals .lst) := by
  intro pins s σ H xs us Q I r h
  obtain ⟨p, d, kvs, rfl, hp, hd, q⟩ := h
  rw [Vals.ref1 r]
  obtain ⟨hz, lo, vs, kv, hD⟩ := I.hok d _ hd
  have hv : s.heap.IsValuesView p d := (I.hok p _ hp).1
  obtain ⟨ep, hat⟩ := hD.dictAt
  have lk : kvs.length = vs.length := Paired.length kv
  refine PySem.W.kdl_call (PySem.W.kdl_values (knd := mixKind X.prog X.w) (kvs := vs) (ep := ep)) (I.ok.hd hc) ⟨hv, hat⟩ (by omega) fun h' tk acc c hk hS hacc => ?_
  have e : acc.toList = vs.map (·.2) := PySem.W.kdl_vals_eq acc.toList (by rw [Array.length_toList]; exact hacc.1) fun j v e => hacc.2 j v (by rw [← Array.getElem?_toList]; exact e)
  exact ⟨.ref _, upd H s.heap.objs.size (.lst (kvs.map (·.2))), I.laid (t' := tk) hk (Nat.le_refl _) ⟨by rw [List.length_map]; omega, acc.toList, c, by rw [e]; exact vals_snd kv, by rw [Array.toArray_toList]; exact hS⟩, rfl, q _ (I.hok.fresh (Nat.le_refl _))⟩
end
end K0

/-! ## A2 -/
set_option maxRecDepth 100000
set_option maxHeartbeats 2000000
namespace K0
open PySem L2
/-! ### comprehensions whose element leaves all that is tracked -/
theorem Same.rfl' {H : Hp} : Same H H := fun _ _ h => h
theorem Same.tr {A B C : Hp} (a : Same A B) (b : Same B C) : Same A C := fun c o h => b c o (a c o h)
theorem Same.new {H : Hp} {D : Addr} (o : HO) (h : H D = none) : Same H (upd H D o) := fun b u q => by rw [upd_ne (ne_of_none q h)]; exact q
theorem lc_pure {J : It} {n : Nat} {G : Hp → Prop} {Y : Nat → Hp → V → Hp → Prop} (w : Walk J n G Y) {g : TG} {te : TE} {vs : List Nat} {σ : St} {H1 : Hp} {D : Addr} {Qd : Hp → Prop} (f : Nat → V)
    (hn : n < sizeLine) (hD : H1 D = none) (hG : ∀ H, Same H1 H → G H)
    (hs : ∀ i x H H', i < n → Same H1 H → Y i H x H' → g x (wipe σ vs) H' fun σ2 H2 => wipe σ2 vs = wipe σ vs ∧ ∀ (Q : V → Hp → Prop), (∀ H4, Same H H4 → Q (f i) H4) → te σ2 H2 Q)
    (gm : ∀ x σ H (P R : St → Hp → Prop), (∀ σ2 H2, P σ2 H2 → R σ2 H2) → g x σ H P → g x σ H R)
    (hd : ∀ H, Same H1 H → H D = some (.lst ((List.range n).map f)) → Qd H) :
    ∃ W : Nat → Nat → Hp → Prop, (∃ m, W 0 m (upd H1 D (.lst []))) ∧ ∀ i m H, W i m H →
      (J.stop i H ∧ Qd H) ∨ (J.go i H ∧ ∃ Nx : Hp → Prop, (∀ H', Nx H' → ∃ m', m' < m ∧ W (i + 1) m' H') ∧ ∀ x H', J.yld i H x H' → g x (wipe σ vs) H' fun σ2 H2 => wipe σ2 vs = wipe σ vs ∧ tYes σ2 H2 fun b H3 =>
        if b = true then te σ2 H3 fun y H4 => ∃ acc, H4 D = some (.lst acc) ∧ acc.length < sizeLine ∧ Nx (upd H4 D (.lst (acc ++ [y]))) else Nx H3) := by
  refine lc_it w (fun i H => Same H1 H ∧ H D = some (.lst ((List.range i).map f))) ⟨Same.new _ hD, upd_same⟩ (fun i H _ p => hG H p.1) (fun i x H H' hi p y => ?_) (fun H p => hd H p.1 p.2)
  refine gm _ _ _ _ _ (fun σ2 H2 q => ⟨q.1, ?_⟩) (hs i x H H' hi p.1 y)
  dsimp only [tYes]
  rw [if_pos rfl]
  refine q.2 _ fun H4 s4 => ⟨_, s4 _ _ p.2, ?_, ?_, ?_⟩
  · rw [List.length_map, List.length_range]
    exact Nat.lt_trans hi hn
  · exact fun b o e => by rw [upd_ne (ne_of_none e hD)]; exact s4 _ _ (p.1 _ _ e)
  · rw [upd_same, List.range_succ, List.map_append]
    rfl
theorem gName_mono {i : Nat} : ∀ x σ H (P R : St → Hp → Prop), (∀ σ2 H2, P σ2 H2 → R σ2 H2) → gName i x σ H P → gName i x σ H R := fun _ _ _ _ _ h p => h _ _ p
/-! ### kinds -/
def isIntT : V → Bool
  | .int _ => true
  | .bl _ => true
  | _ => false
def isStrV : V → Bool
  | .str _ => true
  | _ => false
def isTupV (H : Hp) : V → Bool
  | .ref a => match H a with
    | some (.tup _) => true
    | _ => false
  | _ => false
def isDctV (H : Hp) : V → Bool
  | .ref a => match H a with
    | some (.dK _) => true
    | _ => false
  | _ => false
section
variable {K : PySem.W.Frag} {H : Hp} {v : V}
theorem Da.kStr (d : Da H v) : ∃ t, TyX K H v t ∧ PySem.W.kitOne K t (.type "str") = some (isStrV v) := by
  cases d with
  | non => exact ⟨_, .base .non, kit_ty (by decide +kernel)⟩
  | bl b => exact ⟨_, .base (.bl b), kit_ty (by show kitB "bool" "str" = some false; decide +kernel)⟩
  | int b => exact ⟨_, .base (.int b), kit_ty (by show kitB "int" "str" = some false; decide +kernel)⟩
  | str b => exact ⟨_, .base (.str b), kit_ty (by show kitB "str" "str" = some true; decide +kernel)⟩
  | lst b => exact ⟨_, .base (.lst b), kit_ty (by show kitB "list" "str" = some false; decide +kernel)⟩
  | tup b => exact ⟨_, .base (.tup b), kit_ty (by show kitB "tuple" "str" = some false; decide +kernel)⟩
  | dK b => exact ⟨_, .base (.dK b), kit_ty (by show kitB "dict" "str" = some false; decide +kernel)⟩
theorem Da.kTup (d : Da H v) : ∃ t, TyX K H v t ∧ PySem.W.kitOne K t (.type "tuple") = some (isTupV H v) := by
  cases d with
  | non => exact ⟨_, .base .non, kit_ty (by show kitB "NoneType" "tuple" = some false; decide +kernel)⟩
  | bl b => exact ⟨_, .base (.bl b), kit_ty (by show kitB "bool" "tuple" = some false; decide +kernel)⟩
  | int b => exact ⟨_, .base (.int b), kit_ty (by show kitB "int" "tuple" = some false; decide +kernel)⟩
  | str b => exact ⟨_, .base (.str b), kit_ty (by show kitB "str" "tuple" = some false; decide +kernel)⟩
  | lst b => exact ⟨_, .base (.lst b), by simp only [isTupV, b]; exact kit_ty (by decide +kernel)⟩
  | tup b => exact ⟨_, .base (.tup b), by simp only [isTupV, b]; exact kit_ty (by decide +kernel)⟩
  | dK b => exact ⟨_, .base (.dK b), by simp only [isTupV, b]; exact kit_ty (by decide +kernel)⟩
theorem Da.kDct (d : Da H v) : ∃ t, TyX K H v t ∧ PySem.W.kitOne K t (.type "dict") = some (isDctV H v) := by
  cases d with
  | non => exact ⟨_, .base .non, kit_ty (by show kitB "NoneType" "dict" = some false; decide +kernel)⟩
  | bl b => exact ⟨_, .base (.bl b), kit_ty (by show kitB "bool" "dict" = some false; decide +kernel)⟩
  | int b => exact ⟨_, .base (.int b), kit_ty (by show kitB "int" "dict" = some false; decide +kernel)⟩
  | str b => exact ⟨_, .base (.str b), kit_ty (by show kitB "str" "dict" = some false; decide +kernel)⟩
  | lst b => exact ⟨_, .base (.lst b), by simp only [isDctV, b]; exact kit_ty (by decide +kernel)⟩
  | tup b => exact ⟨_, .base (.tup b), by simp only [isDctV, b]; exact kit_ty (by decide +kernel)⟩
  | dK b => exact ⟨_, .base (.dK b), by simp only [isDctV, b]; exact kit_ty (by decide +kernel)⟩
end
/-! ### is_count, is_width -/
def isC : V → Bool
  | .int i => isI (.int i) && decide (0 ≤ i)
  | _ => false
def isW : V → Bool
  | .int i => isI (.int i) && (decide (1 ≤ i) && decide (i ≤ 8))
  | _ => false
theorem isI_int {v : V} (h : isI v = true) : ∃ i, v = .int i := by
  cases v with
  | int i => exact ⟨i, rfl⟩
  | _ => cases h
def spIsCnt : Sp := fun vs H Q _ => ∃ v, vs = [v] ∧ Da H v ∧ Q (.bl (isC v)) H
def spIsWid : Sp := fun vs H Q _ => ∃ v, vs = [v] ∧ Da H v ∧ Q (.bl (isW v)) H
theorem isC_no {v : V} (h : isI v = false) : isC v = false := by
  cases v with
  | int i => show (isI (.int i) && _) = false; rw [h]; rfl
  | _ => rfl
theorem isW_no {v : V} (h : isI v = false) : isW v = false := by
  cases v with
  | int i => show (isI (.int i) && _) = false; rw [h]; rfl
  | _ => rfl
structure T2 (K : PySem.W.Frag) (mg : Str → Option Value) (fI fW : Addr) : Prop extends T1 K mg where
  gI : mg "is_integer" = some (.ref fI)
  kI : PySem.W.keepIn K (.ref fI) = true
  gW : mg "is_width" = some (.ref fW)
  kW : PySem.W.keepIn K (.ref fW) = true
  wid : ∃ t, mg "MAX_WIDTH" = some (.int 8 t)
  let_ : ∃ t, mg "MAX_LETTERS" = some (.int 8 t)
  len : mg "len" = none
  str : mg "str" = none
  tup : mg "tuple" = none
  dct : mg "dict" = none
  all : mg "all" = none
  any : mg "any" = none
section
variable {P : Program} {w : World} {K : PySem.W.Frag} {mg : Str → Option Value} {base : Heap} {fI fW : Addr} {fdI fdW : FuncData}
theorem scIsWid : FnScope ["value"] ["value"] (defScope sIsWid) := ⟨rfl, rfl, rfl, by decide +kernel, rfl, by decide +kernel, by decide +kernel⟩
theorem ok_isWid {f : Addr} {fd : FuncData} (F : Fun K "is_width" "is_width" sIsWid f fd) (T : T2 K mg fI fW) (G : FnOk P w K mg base CX0 1 fI fdI ["value"] spIsInt) (bI : Binds K fdI ["value"] []) : FnOk P w K mg base CX0 2 f fd ["value"] spIsWid := by
  refine F.ok scIsWid (fun vs H Q E h => ?_) (fun cdv A outer s H vs Q E hr h => ?_)
  · obtain ⟨v, rfl, _⟩ := h
    rfl
  · obtain ⟨v, rfl, d, k⟩ := h
    obtain ⟨t, hw⟩ := T.wid
    refine ⟨_, pss_one (ps_ret (pe_and (pe_call G hr rfl T.gI T.kI bI .nil pass0 (pa_cons (pv 0) pa_nil)) (pe_one (pe_chain op_le op_le pe_int (pv 0) (pe_glob (v := .int 8) (by rfl) hw ⟨t, rfl⟩))))), ?_⟩
    refine ⟨_, rfl, v, rfl, d, isI v, rfl, ?_⟩
    by_cases c : isI v = true
    · obtain ⟨i, rfl⟩ := isI_int c
      have e : isW (.int i) = (decide (1 ≤ i) && decide (i ≤ 8)) := by show (isI (.int i) && _) = _; rw [c]; rfl
      rw [e] at k
      refine if_pos_of c ⟨_, rfl, _, _, rfl, rfl, _, rfl, ?_⟩
      by_cases c1 : 1 ≤ i
      · rw [decide_eq_true c1] at k
        exact if_pos_of (decide_eq_true c1) ⟨_, _, rfl, rfl, k⟩
      · rw [decide_eq_false c1] at k
        exact if_neg_of (decide_eq_false c1) k
    · have c' := Bool.eq_false_iff.mpr c
      refine if_neg_of c' ?_
      rw [isW_no c'] at k
      exact k
end
end K0

/-! ## A3 -/
set_option maxRecDepth 100000
set_option maxHeartbeats 2000000
namespace K0
open PySem L2
abbrev sIsNam : Stmt := top 14
abbrev sAreNam : Stmt := top 15
abbrev sIsRow : Stmt := top 999
def lowC (c : Nat) : Bool := decide (97 ≤ c) && decide (c ≤ 122)
def nameS (z : Str) : Bool := (decide (1 ≤ z.length) && decide (z.length ≤ 8)) && z.cps.toList.all lowC
def nameV : V → Bool
  | .str z => nameS z
  | _ => false
/-- texts are short -/
def Sz : V → Prop
  | .str z => z.length ≤ 1000
  | _ => True
theorem lt_a (c : Nat) : decide ([c] < ("a" : Str).cps.toList) = decide (c < 97) := by
  show decide ([c] < [97]) = _
  by_cases h : c < 97 <;> simp [List.cons_lt_cons_iff, h]
theorem lt_z (c : Nat) : decide (("z" : Str).cps.toList < [c]) = decide (122 < c) := by
  show decide ([122] < [c]) = _
  by_cases h : 122 < c <;> simp [List.cons_lt_cons_iff, h]
theorem all_range (z : Str) (p : Nat → Bool) : ((List.range z.cps.size).map fun i => p (z.cps.getD i 0)).all id = z.cps.toList.all p := by
  have e : (List.range z.cps.size).map (fun i => z.cps.getD i 0) = z.cps.toList := by
    apply List.ext_getElem
    · simp
    · intro i h1 h2
      simp at h1
      simp [h1]
  rw [← e, List.all_map, List.all_map]
  rfl
def spIsNam : Sp := fun vs H Q _ => ∃ v, vs = [v] ∧ Da H v ∧ Sz v ∧ ∀ H', Same H H' → Q (.bl (nameV v)) H'
section
variable {P : Program} {w : World} {K : PySem.W.Frag} {mg : Str → Option Value} {base : Heap} {fI fW : Addr} {fdI fdC fdW : FuncData}
theorem scIsNam : FnScope ["value", "letter"] ["value"] (defScope sIsNam) := ⟨rfl, rfl, rfl, by decide +kernel, rfl, by decide +kernel, by decide +kernel⟩
theorem ok_isNam {f : Addr} {fd : FuncData} (F : Fun K "is_name" "is_name" sIsNam f fd) (T : T2 K mg fI fW) : FnOk P w K mg base CX0 1 f fd ["value"] spIsNam := by
  refine F.ok scIsNam (fun vs H Q E h => ?_) (fun cdv A outer s H vs Q E hr h => ?_)
  · obtain ⟨v, rfl, _⟩ := h
    rfl
  · obtain ⟨v, rfl, d, sz, k⟩ := h
    obtain ⟨tl, hl⟩ := T.let_
    refine ⟨_, pss_cons (ps_if (pw_or (pt_not (pt_val (pe_callB call_isi (by rfl) T.isi (by decide +kernel) (pa_cons (pv 0) (pa_cons (pe_bltn (v := .ty "str") (by rfl) T.str (by decide +kernel) rfl) pa_nil)))))
        (pw_or1 (pt_not (pt_chain op_le op_le pe_int (pe_callB call_len_str (by rfl) T.len PySem.boot_len (pa_cons (pv 0) pa_nil)) (pe_glob (v := .int 8) (by rfl) hl ⟨tl, rfl⟩))))).pt
        (pss_one (ps_ret pe_bl)) pss_nil)
      (pss_one (ps_ret (pe_callB (cr_all rfl) (by rfl) T.all (by decide +kernel) (pa_cons (pe_lc (own := [("letter", 1)]) (g := gName 1) (tt := tYes) rfl scIsNam.nd (pi_str (pv 0))
        (blkOk_by (own := [("letter", 1)]) (N := ["value", "letter"]) (sc := defScope sIsNam) (by decide +kernel)) (fun _ _ _ _ _ => pg_name (i := 1) scIsNam.nd rfl (Or.inl rfl)) (fun _ _ _ _ _ => pts_nil)
        (fun _ _ _ _ _ => pe_chain op_le_str op_le_str pe_str (pv 1) pe_str)) pa_nil)))), ?_⟩
    obtain ⟨t, ty, kt⟩ := d.kStr (K := K)
    refine ⟨_, rfl, _, _, t, _, isStrV v, rfl, .ty _, ty, kt, isStrV v, rfl, ?_⟩
    by_cases c : isStrV v = true
    · obtain ⟨z, rfl⟩ : ∃ z, v = .str z := by
        cases v with
        | str z => exact ⟨z, rfl⟩
        | _ => cases c
      have hz : z.length ≤ 1000 := sz
      have e : nameV (.str z) = ((decide (1 ≤ z.length) && decide (z.length ≤ 8)) && z.cps.toList.all lowC) := rfl
      refine if_neg_of (by rw [c]; rfl) ⟨_, rfl, z, rfl, Nat.le_of_lt (small1000 hz), _, _, rfl, rfl, _, rfl, ?_⟩
      by_cases c1 : (1 : Int) ≤ z.length
      · have c1' : decide (1 ≤ z.length) = true := decide_eq_true (by omega)
        refine if_pos_of (decide_eq_true c1) ⟨_, _, rfl, rfl, _, rfl, ?_⟩
        by_cases c2 : (z.length : Int) ≤ 8
        · have c2' : decide (z.length ≤ 8) = true := decide_eq_true (by omega)
          rw [decide_eq_true c2]
          refine if_neg_of rfl ⟨_, rfl, _, rfl, fun D hD => lc_pure (f := fun i => .bl (lowC (z.cps.getD i 0))) walk_str ?_ hD (fun _ _ => True.intro) ?_ gName_mono ?_⟩
          · show z.length < sizeLine
            exact small1000 hz
          · rintro i x H2 H3 hi s2 ⟨rfl, c, hc, rfl⟩
            refine ⟨rfl, fun Q' q => ⟨_, rfl, _, _, rfl, rfl, _, rfl, ?_⟩⟩
            have ec : z.cps.getD i 0 = c := by simp [hc]
            have q0 := q _ (Same.rfl' (H := H3))
            rw [ec] at q0
            show if (!decide ([c] < ("a" : Str).cps.toList)) = true then _ else _
            rw [lt_a]
            by_cases c3 : c < 97
            · refine if_neg_of (by rw [decide_eq_true c3]; rfl) ?_
              have e3 : lowC c = false := by simp [lowC]; omega
              rw [e3] at q0
              exact q0
            · refine if_pos_of (by rw [decide_eq_false c3]; rfl) ⟨_, _, rfl, rfl, ?_⟩
              have e3 : lowC c = !decide (("z" : Str).cps.toList < [c]) := by
                rw [lt_z]
                simp [lowC]
                by_cases h : 122 < c <;> simp [h] <;> omega
              rw [e3] at q0
              exact q0
          · intro H2 s2 hD2
            refine ⟨D, (List.range z.cps.size).map fun i => lowC (z.cps.getD i 0), rfl, ?_, ?_⟩
            · rw [List.map_map]
              exact SqL.of hD2
            · rw [all_range]
              have k' := k H2 s2
              rw [e, c1', c2'] at k'
              exact k'
        · rw [decide_eq_false c2]
          refine if_pos_of rfl ?_
          have k' := k H Same.rfl'
          have c2' : decide (z.length ≤ 8) = false := decide_eq_false (by omega)
          rw [e, c2', Bool.and_false] at k'
          exact k'
      · have c1' : decide (1 ≤ z.length) = false := decide_eq_false (by omega)
        refine if_neg_of (decide_eq_false c1) ⟨_, rfl, ?_⟩
        refine if_pos_of rfl ?_
        have k' := k H Same.rfl'
        rw [e, c1'] at k'
        exact k'
    · have c' := Bool.eq_false_iff.mpr c
      refine if_pos_of (by rw [c']; rfl) ?_
      refine if_pos_of rfl ?_
      have e : nameV v = false := by
        cases v with
        | str z => cases c'
        | _ => rfl
      have k' := k H Same.rfl'
      rw [e] at k'
      exact k'
end
end K0

/-! ## A4 -/
set_option maxRecDepth 100000
set_option maxHeartbeats 2000000
namespace K0
open PySem L2
theorem Da.same {H H' : Hp} {v : V} (d : Da H v) (s : Same H H') : Da H' v := by
  cases d with
  | non => exact .non
  | bl b => exact .bl b
  | int b => exact .int b
  | str b => exact .str b
  | lst b => exact .lst (s _ _ b)
  | tup b => exact .tup (s _ _ b)
  | dK b => exact .dK (s _ _ b)
/-- a tuple's items are data, and few -/
def Tu (H : Hp) (v : V) : Prop := ∀ a xs, v = .ref a → H a = some (.tup xs) → xs.length ≤ 1000 ∧ ∀ x ∈ xs, Da H x ∧ Sz x
def onTup (H : Hp) (p : List V → Bool) : V → Bool
  | .ref a => match H a with
    | some (.tup xs) => p xs
    | _ => false
  | _ => false
theorem onTup_no {H : Hp} {p : List V → Bool} {v : V} (h : isTupV H v = false) : onTup H p v = false := by
  cases v with
  | ref a =>
    simp only [isTupV] at h
    simp only [onTup]
    cases e : H a with
    | none => rfl
    | some o => cases o <;> first | rfl | (simp [e] at h)
  | _ => rfl
theorem isTup_at {H : Hp} {v : V} (h : isTupV H v = true) : ∃ a xs, v = .ref a ∧ H a = some (.tup xs) := by
  cases v with
  | ref a =>
    simp only [isTupV] at h
    cases e : H a with
    | none => simp [e] at h
    | some o => cases o <;> first | exact ⟨a, _, rfl, e⟩ | (simp [e] at h)
  | _ => cases h
theorem all_list (xs : List V) (p : V → Bool) : ((List.range xs.length).map fun i => p (xs.getD i .non)).all id = xs.all p := by
  have e : (List.range xs.length).map (fun i => xs.getD i .non) = xs := by
    apply List.ext_getElem
    · simp
    · intro i h1 h2
      simp at h1
      simp [h1]
  have e2 : xs.all p = ((List.range xs.length).map (fun i => xs.getD i .non)).all p := by rw [e]
  rw [e2, List.all_map, List.all_map]
  rfl
def spAreNam : Sp := fun vs H Q _ => ∃ v, vs = [v] ∧ Da H v ∧ Tu H v ∧ ∀ H', Same H H' → Q (.bl (onTup H (fun xs => xs.all nameV) v)) H'
structure T3 (K : PySem.W.Frag) (mg : Str → Option Value) (fI fW fN : Addr) : Prop extends T2 K mg fI fW where
  gN : mg "is_name" = some (.ref fN)
  kN : PySem.W.keepIn K (.ref fN) = true
section
variable {P : Program} {w : World} {K : PySem.W.Frag} {mg : Str → Option Value} {base : Heap} {fI fW fN : Addr} {fdI fdC fdW fdN : FuncData}
theorem scAreNam : FnScope ["value", "name"] ["value"] (defScope sAreNam) := ⟨rfl, rfl, rfl, by decide +kernel, rfl, by decide +kernel, by decide +kernel⟩
theorem ok_areNam {f : Addr} {fd : FuncData} (F : Fun K "are_names" "are_names" sAreNam f fd) (T : T3 K mg fI fW fN) (G : FnOk P w K mg base CX0 1 fN fdN ["value"] spIsNam) (bN : Binds K fdN ["value"] []) : FnOk P w K mg base CX0 2 f fd ["value"] spAreNam := by
  refine F.ok scAreNam (fun vs H Q E h => ?_) (fun cdv A outer s H vs Q E hr h => ?_)
  · obtain ⟨v, rfl, _⟩ := h
    rfl
  · obtain ⟨v, rfl, d, tu, k⟩ := h
    refine ⟨_, pss_one (ps_ret (pe_and (pe_callB call_isi (by rfl) T.isi (by decide +kernel) (pa_cons (pv 0) (pa_cons (pe_bltn (v := .ty "tuple") (by rfl) T.tup (by decide +kernel) rfl) pa_nil)))
      (pe_one (pe_callB (cr_all rfl) (by rfl) T.all (by decide +kernel) (pa_cons (pe_lc (own := [("name", 1)]) (g := gName 1) (tt := tYes) rfl scAreNam.nd (pi_tup (pv 0))
        (blkOk_by (own := [("name", 1)]) (N := ["value", "name"]) (sc := defScope sAreNam) (by decide +kernel)) (fun _ _ _ _ _ => pg_name (i := 1) scAreNam.nd rfl (Or.inl rfl)) (fun _ _ _ _ _ => pts_nil)
        (fun _ _ _ _ _ => pe_call G hr (by rfl) T.gN T.kN bN .nil pass0 (pa_cons (pv 1) pa_nil))) pa_nil))))), ?_⟩
    obtain ⟨t, ty, kt⟩ := d.kTup (K := K)
    refine ⟨_, rfl, _, _, t, _, isTupV H v, rfl, .ty _, ty, kt, isTupV H v, rfl, ?_⟩
    by_cases c : isTupV H v = true
    · obtain ⟨a, xs, rfl, ha⟩ := isTup_at c
      obtain ⟨hl, hx⟩ := tu a xs rfl ha
      refine if_pos_of c ⟨_, rfl, a, rfl, ⟨_, SqT.of ha⟩, fun D hD => lc_pure (f := fun i => .bl (nameV (xs.getD i .non))) (walk_tup (K := K) (a := a) (xs := xs)) (small1000 hl) hD (fun H1 s1 => SqT.of (s1 _ _ ha)) ?_ gName_mono ?_⟩
      · rintro i x H2 H3 hi s2 ⟨rfl, hxi⟩
        have e : xs.getD i .non = x := by simp [List.getD, hxi]
        obtain ⟨dx, sx⟩ := hx x (List.mem_of_getElem? hxi)
        refine ⟨rfl, fun Q' q => ⟨_, rfl, x, rfl, dx.same s2, sx, fun H4 s4 => ?_⟩⟩
        have q0 := q H4 s4
        rw [e] at q0
        exact q0
      · intro H2 s2 hD2
        refine ⟨D, (List.range xs.length).map fun i => nameV (xs.getD i .non), rfl, ?_, ?_⟩
        · rw [List.map_map]
          exact SqL.of hD2
        · rw [all_list]
          have k' := k H2 s2
          simp only [onTup, ha] at k'
          exact k'
    · have c' := Bool.eq_false_iff.mpr c
      refine if_neg_of c' ?_
      have k' := k H Same.rfl'
      rw [onTup_no c'] at k'
      exact k'
end
end K0

/-! ## A6 -/
set_option maxRecDepth 100000
set_option maxHeartbeats 2000000
namespace K0
open PySem L2
abbrev sDice : Stmt := top 31
abbrev sRoll : Stmt := top 32
abbrev sPick : Stmt := top 33
def DiceAt (H : Hp) (p : Addr) : Prop := ∃ x y z : Int, H p = some (.lst [.int x, .int y, .int z])
/-- all but the dice stay -/
def Kd (p : Addr) (H H' : Hp) : Prop := ∀ b o, b ≠ p → H b = some o → H' b = some o
theorem Kd.rfl' {p : Addr} {H : Hp} : Kd p H H := fun _ _ _ h => h
theorem Kd.tr {p : Addr} {A B C : Hp} (a : Kd p A B) (b : Kd p B C) : Kd p A C := fun c o n h => b c o n (a c o n h)
theorem Kd.of {p : Addr} {A B : Hp} (a : Same A B) : Kd p A B := fun c o _ h => a c o h
theorem Kd.put {p : Addr} {H : Hp} {o : HO} : Kd p H (upd H p o) := fun b u n q => by rw [upd_ne n]; exact q
def spDice (K : PySem.W.Frag) : Sp := fun vs H Q _ => ∃ (a : Addr) (ns : List Int) (i : Int), vs = [.ref a, .int i] ∧ SqL K H a (ns.map V.int) ∧ 0 ≤ i ∧ ∀ H' p, Same H H' → H p = none → DiceAt H' p → Q (.ref p) H'
def spRoll : Sp := fun vs H Q _ => ∃ (p : Addr) (t : Int), vs = [.ref p, .int t] ∧ DiceAt H p ∧ 0 < t ∧ t < 1073741824 ∧ ∀ r H', 0 ≤ r → r < t → Kd p H H' → DiceAt H' p → Q (.int r) H'
def spPick : Sp := fun vs H Q _ => ∃ (p a : Addr) (xs : List V), vs = [.ref p, .ref a] ∧ DiceAt H p ∧ a ≠ p ∧ H a = some (.lst xs) ∧ 0 < xs.length ∧ xs.length ≤ 1000 ∧ ∀ v H', v ∈ xs → Kd p H H' → DiceAt H' p → Q v H'
structure TL (K : PySem.W.Frag) (mg : Str → Option Value) (fR fP : Addr) : Prop where
  int : mg "int" = none
  abs : mg "abs" = none
  max : mg "max" = none
  len : mg "len" = none
  gR : mg "_law_roll" = some (.ref fR)
  kR : PySem.W.keepIn K (.ref fR) = true
  gP : mg "_law_pick" = some (.ref fP)
  kP : PySem.W.keepIn K (.ref fP) = true
theorem mod_cm {a b : Int} : CMul (a % 2305843009213693907) b := .inl ⟨by have := Int.emod_nonneg a (show (2305843009213693907 : Int) ≠ 0 by decide); omega, by have := Int.emod_lt_of_pos a (show (0 : Int) < 2305843009213693907 by decide); omega⟩
theorem big_mul : CMulW ((10 : Int) ^ (60 : Int).toNat) ((10 : Int) ^ (60 : Int).toNat) := by
  unfold CMulW
  decide +kernel
theorem big_pos : (0 : Int) < (10 : Int) ^ (60 : Int).toNat * (10 : Int) ^ (60 : Int).toNat := by decide +kernel
theorem at0 {x y z : V} : atI [x, y, z] 0 = some x := rfl
theorem at1 {x y z : V} : atI [x, y, z] 1 = some y := rfl
theorem at2 {x y z : V} : atI [x, y, z] 2 = some z := rfl
section
variable {P : Program} {w : World} {K : PySem.W.Frag} {mg : Str → Option Value} {base : Heap} {fR fP : Addr} {fdR fdP : FuncData}
theorem scDice : FnScope ["_law_script", "_law_spot", "_law_cell", "_law_left"] ["_law_script", "_law_spot"] (defScope sDice) := ⟨rfl, rfl, rfl, by decide +kernel, rfl, by decide +kernel, by decide +kernel⟩
theorem ok_dice {f : Addr} {fd : FuncData} (F : Fun K "_law_dice" "_law_dice" sDice f fd) (T : TL K mg fR fP) : FnOk P w K mg base CX0 1 f fd ["_law_script", "_law_spot"] (spDice K) := by
  refine F.ok scDice (fun vs H Q E h => ?_) (fun cdv A outer s H vs Q E hr h => ?_)
  · obtain ⟨a, ns, i, rfl, _⟩ := h
    rfl
  · obtain ⟨a, ns, i, rfl, hS, hi, k⟩ := h
    refine ⟨_, pss_cons (ps_set (i := 2) scDice.nd rfl (Or.inl rfl) (pe_ifExp (pt_cmpR op_lt (pv 1) (pe_callB call_len_seq (by rfl) T.len PySem.boot_len (pa_cons (pv 0) pa_nil)) (nomark _))
        (pe_callTy call_int1 (by rfl) T.int (by decide +kernel) (pa_cons (pe_ix ix_list (pv 0) (pv 1) (fun _ _ => rfl)) pa_nil)) (pe_op op_add (pe_op op_mul pe_int (pv 1)) pe_int)))
      (pss_cons (ps_set (i := 3) scDice.nd rfl (Or.inl rfl) (pe_op op_mod (pe_callB (call_max2 rfl) (by rfl) T.max (by decide +kernel) (pa_cons pe_int (pa_cons (pe_op op_sub (pe_callB call_abs (by rfl) T.abs (by decide +kernel) (pa_cons (pv 2) pa_nil)) (pe_op op_pow pe_int pe_int)) pa_nil)))
        (pe_op op_mulW (pe_op op_pow pe_int pe_int) (pe_op op_pow pe_int pe_int))))
      (pss_one (ps_ret (pe_lst (pa_cons (pv 3) (pa_cons (pe_op op_add (pe_op op_add (pe_op op_add (pe_op op_mul (pe_op op_mod (pe_callB call_abs (by rfl) T.abs (by decide +kernel) (pa_cons (pv 2) pa_nil)) pe_int) pe_int) (pe_op op_mul pe_int (pv 1)))
        (pe_op op_mul pe_int (pe_callTy call_int1 (by rfl) T.int (by decide +kernel) (pa_cons (pe_cmpR op_lt (pv 2) pe_int (nomark _)) pa_nil)))) pe_int) (pa_cons pe_int pa_nil))))))), ?_⟩
    refine ⟨_, rfl, _, rfl, a, _, rfl, .inl hS, _, _, rfl, rfl, _, rfl, ?_⟩
    rw [List.length_map]
    by_cases c : i < (ns.length : Int)
    · have hl : i.toNat < ns.length := by omega
      have e : atI (ns.map V.int) ((i.toNat : Nat) : Int) = some (.int ns[i.toNat]) := atI_nat (by rw [List.getElem?_map, List.getElem?_eq_getElem hl]; rfl)
      rw [Int.toNat_of_nonneg hi] at e
      refine if_pos_of (decide_eq_true c) ⟨_, rfl, _, rfl, a, _, _, _, rfl, rfl, hS, e, .inl ⟨_, rfl, ?_⟩⟩
      refine ⟨_, rfl, _, rfl, _, _, rfl, rfl, ⟨by decide, by decide, by decide⟩, _, _, rfl, rfl, _, _, rfl, _, _, rfl, rfl, ⟨by decide, by decide, by decide⟩, _, _, rfl, rfl, ⟨by decide, by decide, by decide⟩, _, _, rfl, rfl, big_mul, _, _, rfl, rfl, big_pos, ?_⟩
      refine ⟨_, rfl, _, rfl, _, rfl, _, _, rfl, rfl, (by show (0 : Int) < 1152921504606846869; decide), _, _, rfl, rfl, .inr ⟨by decide, by decide⟩, _, rfl, _, _, rfl, rfl, .inl ⟨by decide, by decide⟩, _, _, rfl, rfl, ?_⟩
      refine ⟨_, rfl, _, _, rfl, rfl, .inr ⟨_, rfl, _, _, rfl, rfl, .inl ⟨by decide, by decide⟩, _, _, rfl, rfl, _, _, rfl, rfl, ?_⟩⟩
      exact ⟨by show 3 ≤ sizeLine; decide, fun p hp => k _ p (Same.new _ hp) hp ⟨_, _, _, upd_same⟩⟩
    · refine if_neg_of (decide_eq_false c) ⟨_, rfl, _, _, rfl, rfl, .inl ⟨by decide, by decide⟩, _, _, rfl, rfl, ?_⟩
      refine ⟨_, rfl, _, rfl, _, _, rfl, rfl, ⟨by decide, by decide, by decide⟩, _, _, rfl, rfl, _, _, rfl, _, _, rfl, rfl, ⟨by decide, by decide, by decide⟩, _, _, rfl, rfl, ⟨by decide, by decide, by decide⟩, _, _, rfl, rfl, big_mul, _, _, rfl, rfl, big_pos, ?_⟩
      refine ⟨_, rfl, _, rfl, _, rfl, _, _, rfl, rfl, (by show (0 : Int) < 1152921504606846869; decide), _, _, rfl, rfl, .inr ⟨by decide, by decide⟩, _, rfl, _, _, rfl, rfl, .inl ⟨by decide, by decide⟩, _, _, rfl, rfl, ?_⟩
      refine ⟨_, rfl, _, _, rfl, rfl, .inr ⟨_, rfl, _, _, rfl, rfl, .inl ⟨by decide, by decide⟩, _, _, rfl, rfl, _, _, rfl, rfl, ?_⟩⟩
      exact ⟨by show 3 ≤ sizeLine; decide, fun p hp => k _ p (Same.new _ hp) hp ⟨_, _, _, upd_same⟩⟩
theorem scRoll : FnScope ["_law_dice_here", "_law_total", "_law_found", "_law_one", "_law_two"] ["_law_dice_here", "_law_total"] (defScope sRoll) := ⟨rfl, rfl, rfl, by decide +kernel, rfl, by decide +kernel, by decide +kernel⟩
theorem ok_roll {f : Addr} {fd : FuncData} (F : Fun K "_law_roll" "_law_roll" sRoll f fd) (T : TL K mg fR fP) : FnOk P w K mg base CX0 1 f fd ["_law_dice_here", "_law_total"] spRoll := by
  refine F.ok scRoll (fun vs H Q E h => ?_) (fun cdv A outer s H vs Q E hr h => ?_)
  · obtain ⟨a, t, rfl, _⟩ := h
    rfl
  · obtain ⟨p, t, rfl, ⟨x, y, z, hp⟩, h0, h1, k⟩ := h
    refine ⟨_, pss_cons (ps_if (pt_cmpR op_gt (pe_ix ix_list (pv 0) pe_int (fun _ _ => rfl)) pe_int (nomark _))
        (pss_cons (ps_set (i := 2) scRoll.nd rfl (Or.inl rfl) (pe_op op_mod (pe_callTy call_int1 (by rfl) T.int (by decide +kernel) (pa_cons (pe_ix ix_list (pv 0) pe_int (fun _ _ => rfl)) pa_nil)) (pv 1)))
        (pss_cons (ps_asg (pe_op op_fdiv (pe_ix ix_list (pv 0) pe_int (fun _ _ => rfl)) (pv 1)) (pg_sub (pv 0) pe_int set_list))
        (pss_one (ps_ret (pv 2))))) pss_nil)
      (pss_cons (ps_asg (pe_op op_add (pe_ix ix_list (pv 0) pe_int (fun _ _ => rfl)) pe_int) (pg_sub (pv 0) pe_int set_list))
      (pss_cons (ps_set (i := 3) scRoll.nd rfl (Or.inl rfl) (pe_op op_mod (pe_callTy call_int1 (by rfl) T.int (by decide +kernel) (pa_cons (pe_op op_add (pe_ix ix_list (pv 0) pe_int (fun _ _ => rfl)) (pe_op op_mul pe_int (pe_ix ix_list (pv 0) pe_int (fun _ _ => rfl)))) pa_nil)) pe_int))
      (pss_cons (ps_set (i := 4) scRoll.nd rfl (Or.inl rfl) (pe_op op_add (pe_op op_mul (pe_op op_mod (pe_callTy call_int1 (by rfl) T.int (by decide +kernel) (pa_cons (pe_op op_add (pe_op op_mul (pv 3) (pv 3)) (pe_op op_mul pe_int (pe_ix ix_list (pv 0) pe_int (fun _ _ => rfl)))) pa_nil)) pe_int) pe_int) (pv 3)))
      (pss_one (ps_ret (pe_op op_mod (pe_callTy call_int1 (by rfl) T.int (by decide +kernel) (pa_cons (pe_op op_fdiv (pv 4) pe_int) pa_nil)) (pv 1))))))), ?_⟩
    refine ⟨_, rfl, p, _, _, _, rfl, rfl, SqL.of hp, at0, _, _, rfl, rfl, _, rfl, ?_⟩
    by_cases c : (0 : Int) < x
    · refine if_pos_of (decide_eq_true c) ⟨_, rfl, p, _, _, _, rfl, rfl, SqL.of hp, at0, .inl ⟨_, rfl, _, rfl, _, _, rfl, rfl, h0, ?_⟩⟩
      refine ⟨_, rfl, p, _, _, _, rfl, rfl, SqL.of hp, at0, _, rfl, _, _, rfl, rfl, ⟨h0, h1⟩, _, rfl, p, _, _, 0, rfl, rfl, hp, rfl, _, rfl, ?_⟩
      exact k _ _ (Int.emod_nonneg _ (by omega)) (Int.emod_lt_of_pos _ h0) Kd.put ⟨_, _, _, upd_same⟩
    · refine if_neg_of (decide_eq_false c) ?_
      refine ⟨_, rfl, p, _, _, _, rfl, rfl, SqL.of hp, at2, _, _, rfl, rfl, _, rfl, p, _, _, 2, rfl, rfl, hp, rfl, ?_⟩
      refine ⟨_, rfl, p, _, _, _, rfl, rfl, SqL.of upd_same, at1, _, rfl, p, _, _, _, rfl, rfl, SqL.of upd_same, at2, _, _, rfl, rfl, .inl ⟨by decide, by decide⟩, _, _, rfl, rfl, .inl ⟨_, rfl, _, _, rfl, rfl, (by show (0 : Int) < 2305843009213693907; decide), ?_⟩⟩
      refine ⟨_, rfl, _, rfl, _, _, rfl, rfl, mod_cm, _, rfl, p, _, _, _, rfl, rfl, SqL.of upd_same, at2, _, _, rfl, rfl, .inl ⟨by decide, by decide⟩, _, _, rfl, rfl, .inl ⟨_, rfl, _, _, rfl, rfl, (by show (0 : Int) < 2305843009213693921; decide), ?_⟩⟩
      refine ⟨_, _, rfl, rfl, .inr ⟨by decide, by decide⟩, _, rfl, _, _, rfl, rfl, ?_⟩
      refine ⟨_, rfl, _, _, rfl, rfl, ⟨(by show (0 : Int) < 65536; decide), (by show (65536 : Int) < 1073741824; decide)⟩, .inl ⟨_, rfl, _, rfl, _, _, rfl, rfl, h0, ?_⟩⟩
      exact k _ _ (Int.emod_nonneg _ (by omega)) (Int.emod_lt_of_pos _ h0) Kd.put ⟨_, _, _, upd_same⟩
theorem scPick : FnScope ["_law_dice_here", "_law_items"] ["_law_dice_here", "_law_items"] (defScope sPick) := ⟨rfl, rfl, rfl, by decide +kernel, rfl, by decide +kernel, by decide +kernel⟩
theorem ok_pick {f : Addr} {fd : FuncData} (F : Fun K "_law_pick" "_law_pick" sPick f fd) (T : TL K mg fR fP) (G : FnOk P w K mg base CX0 1 fR fdR ["_law_dice_here", "_law_total"] spRoll) (bR : Binds K fdR ["_law_dice_here", "_law_total"] []) :
    FnOk P w K mg base CX0 2 f fd ["_law_dice_here", "_law_items"] spPick := by
  refine F.ok scPick (fun vs H Q E h => ?_) (fun cdv A outer s H vs Q E hr h => ?_)
  · obtain ⟨p, a, xs, rfl, _⟩ := h
    rfl
  · obtain ⟨p, a, xs, rfl, hp, hne, ha, h0, h1, k⟩ := h
    refine ⟨_, pss_one (ps_ret (pe_ix ix_list (pv 1) (pe_call G hr (by rfl) T.gR T.kR bR .nil pass0 (pa_cons (pv 0) (pa_cons (pe_callB call_len_seq (by rfl) T.len PySem.boot_len (pa_cons (pv 1) pa_nil)) pa_nil))) (fun _ _ => rfl))), ?_⟩
    refine ⟨_, rfl, _, rfl, _, rfl, a, xs, rfl, .inl (SqL.of ha), p, _, rfl, hp, by omega, by omega, fun r H' r0 r1 kd dc => ?_⟩
    have hr1 : r.toNat < xs.length := by omega
    have ha' := kd _ _ hne ha
    refine ⟨a, xs, r, xs[r.toNat], rfl, rfl, SqL.of ha', ?_, k _ _ (List.getElem_mem hr1) kd dc⟩
    have e : atI xs ((r.toNat : Nat) : Int) = some xs[r.toNat] := atI_nat (List.getElem?_eq_getElem hr1)
    have e2 : ((r.toNat : Nat) : Int) = r := Int.toNat_of_nonneg r0
    rw [e2] at e
    exact e
end
end K0

/-! ## A7 -/
set_option maxRecDepth 100000
set_option maxHeartbeats 2000000
namespace K0
open PySem L2
abbrev sMixed : Stmt := top 34
abbrev sIsWord : Stmt := top 999
abbrev sWord : Stmt := top 999
abbrev sNumber : Stmt := top 999
/-- a comprehension whose element rolls the dice -/
theorem lc_roll {J : It} {n : Nat} {G : Hp → Prop} {Y : Nat → Hp → V → Hp → Prop} (w : Walk J n G Y) {g : TG} {te : TE} {vs : List Nat} {σ : St} {H1 : Hp} {D p : Addr} {Qd : Hp → Prop} (Gd : V → Prop)
    (hn : n < sizeLine) (hD : H1 D = none) (hp : DiceAt H1 p) (hG : ∀ H, Kd p H1 H → DiceAt H p → G H)
    (hs : ∀ i x H H', i < n → Kd p H1 H → DiceAt H p → Y i H x H' → g x (wipe σ vs) H' fun σ2 H2 => wipe σ2 vs = wipe σ vs ∧ ∀ (Q : V → Hp → Prop), (∀ y H4, Gd y → Kd p H H4 → DiceAt H4 p → Q y H4) → te σ2 H2 Q)
    (gm : ∀ x σ H (P R : St → Hp → Prop), (∀ σ2 H2, P σ2 H2 → R σ2 H2) → g x σ H P → g x σ H R)
    (hd : ∀ H acc, Kd p H1 H → DiceAt H p → H D = some (.lst acc) → acc.length = n → (∀ y ∈ acc, Gd y) → Qd H) :
    ∃ W : Nat → Nat → Hp → Prop, (∃ m, W 0 m (upd H1 D (.lst []))) ∧ ∀ i m H, W i m H →
      (J.stop i H ∧ Qd H) ∨ (J.go i H ∧ ∃ Nx : Hp → Prop, (∀ H', Nx H' → ∃ m', m' < m ∧ W (i + 1) m' H') ∧ ∀ x H', J.yld i H x H' → g x (wipe σ vs) H' fun σ2 H2 => wipe σ2 vs = wipe σ vs ∧ tYes σ2 H2 fun b H3 =>
        if b = true then te σ2 H3 fun y H4 => ∃ acc, H4 D = some (.lst acc) ∧ acc.length < sizeLine ∧ Nx (upd H4 D (.lst (acc ++ [y]))) else Nx H3) := by
  obtain ⟨x0, y0, z0, e0⟩ := hp
  have hDp : p ≠ D := ne_of_none e0 hD
  refine lc_it w (fun i H => Kd p H1 H ∧ DiceAt H p ∧ ∃ acc, H D = some (.lst acc) ∧ acc.length = i ∧ ∀ y ∈ acc, Gd y)
    ⟨Kd.of (Same.new _ hD), ⟨x0, y0, z0, by rw [upd_ne hDp]; exact e0⟩, [], upd_same, rfl, fun y h => by cases h⟩ (fun i H _ q => hG H q.1 q.2.1) (fun i x H H' hi q y => ?_) (fun H q => ?_)
  · obtain ⟨q1, q2, acc, q3, q4, q5⟩ := q
    refine gm _ _ _ _ _ (fun σ2 H2 r => ⟨r.1, ?_⟩) (hs i x H H' hi q1 q2 y)
    dsimp only [tYes]
    rw [if_pos rfl]
    refine r.2 _ fun y H4 gy s4 d4 => ⟨acc, s4 _ _ hDp.symm q3, by omega, ?_, ?_, acc ++ [y], upd_same, by rw [List.length_append, q4]; rfl, ?_⟩
    · exact fun b o nb e => by rw [upd_ne (ne_of_none e hD)]; exact s4 _ _ nb (q1 _ _ nb e)
    · obtain ⟨a1, a2, a3, a4⟩ := d4
      exact ⟨a1, a2, a3, by rw [upd_ne hDp]; exact a4⟩
    · intro u hu
      rcases List.mem_append.mp hu with h | h
      · exact q5 u h
      · rw [List.mem_singleton.mp h]; exact gy
  · obtain ⟨q1, q2, acc, q3, q4, q5⟩ := q
    exact hd H acc q1 q2 q3 q4 q5
theorem erase_perm {α : Type} : ∀ (l : List α) (i : Nat) (h : i < l.length), List.Perm (l[i] :: l.eraseIdx i) l
  | x :: r, 0, _ => .refl _
  | x :: r, i + 1, h => by
    simp only [List.getElem_cons_succ, List.eraseIdx_cons_succ]
    exact (List.Perm.swap x _ _).trans ((erase_perm r i (by simpa using h)).cons x)
def okS (z : Str) : Prop := ∀ c ∈ z.cps.toList, c < 0x110000
theorem okS_app {a b : Str} (ha : okS a) (hb : okS b) : okS (a ++ b) := fun c h => by
  have e : (a ++ b).cps.toList = a.cps.toList ++ b.cps.toList := by
    show (a.cps ++ b.cps).toList = _
    simp
  rw [e] at h
  rcases List.mem_append.mp h with h | h
  · exact ha c h
  · exact hb c h
theorem okS_join : ∀ ys : List Str, (∀ y ∈ ys, okS y) → okS (Str.join "" ys)
  | [], _ => fun c h => by cases h
  | [x], h => h x List.mem_cons_self
  | x :: y :: r, h => okS_app (okS_app (h x List.mem_cons_self) fun c h => by cases h) (okS_join (y :: r) fun z hz => h z (List.mem_cons_of_mem _ hz))
theorem strs_of : ∀ (acc : List V), (∀ y ∈ acc, ∃ c : Nat, c < 256 ∧ y = .str ⟨#[c]⟩) → ∃ ys : List Str, acc = ys.map V.str ∧ (ys.map (·.length)).sum = acc.length ∧ ys.length = acc.length ∧ ∀ y ∈ ys, okS y
  | [], _ => ⟨[], rfl, rfl, rfl, fun y h => by cases h⟩
  | y :: r, h => by
    obtain ⟨c, hc, rfl⟩ := h y List.mem_cons_self
    obtain ⟨ys, e1, e2, e3, e4⟩ := strs_of r fun z hz => h z (List.mem_cons_of_mem _ hz)
    refine ⟨⟨#[c]⟩ :: ys, by rw [e1]; rfl, ?_, by rw [List.length_cons, List.length_cons, e3], fun y hy => ?_⟩
    rotate_left
    · rcases List.mem_cons.mp hy with e | e
      · rw [e]
        intro d hd
        have hd' : d ∈ [c] := hd
        rw [List.mem_singleton.mp hd']
        omega
      · exact e4 y e
    rw [List.map_cons, List.sum_cons, e2, List.length_cons]
    show 1 + _ = _
    omega
def spMixed : Sp := fun vs H Q _ => ∃ (p a : Addr) (xs : List V), vs = [.ref p, .ref a] ∧ DiceAt H p ∧ a ≠ p ∧ H a = some (.lst xs) ∧ xs.length ≤ 1000 ∧ ∀ ys l H', ys.Perm xs → H l = none → H' l = some (.lst ys) → Kd p H H' → DiceAt H' p → Q (.ref l) H'
def spWord : Sp := fun vs H Q _ => ∃ (p : Addr), vs = [.ref p] ∧ DiceAt H p ∧ ∀ z H', z.length ≤ 10 → okS z → Kd p H H' → DiceAt H' p → Q (.str z) H'
def spNumber : Sp := fun vs H Q _ => ∃ (p : Addr), vs = [.ref p] ∧ DiceAt H p ∧ ∀ (n : Int) H', n.natAbs < 2 ^ 300 → Kd p H H' → DiceAt H' p → Q (.int n) H'
theorem forty : CMulW ((10 : Int) ^ (40 : Int).toNat) ((10 : Int) ^ (40 : Int).toNat) := by
  unfold CMulW
  decide +kernel
def nears : List V := [.int 0, .int 1, .int 7, .int ((10 : Int) ^ (6 : Int).toNat), .int ((10 : Int) ^ (59 : Int).toNat), .int ((10 : Int) ^ (60 : Int).toNat), .int ((10 : Int) ^ (60 : Int).toNat), .int ((10 : Int) ^ (40 : Int).toNat * (10 : Int) ^ (40 : Int).toNat)]
theorem near_of {v : V} (h : v ∈ nears) : ∃ n : Int, v = .int n ∧ n.natAbs < 2 ^ 280 := by
  simp only [nears, List.mem_cons, List.not_mem_nil, or_false] at h
  rcases h with h | h | h | h | h | h | h | h <;> exact ⟨_, h, by decide +kernel⟩
structure TM (K : PySem.W.Frag) (mg : Str → Option Value) (fR fP : Addr) : Prop extends TL K mg fR fP where
  list : mg "list" = none
  range : mg "range" = none
section
variable {P : Program} {w : World} {K : PySem.W.Frag} {mg : Str → Option Value} {base : Heap} {fR fP : Addr} {fdR fdP : FuncData}
theorem scMixed : FnScope ["_law_dice_here", "_law_items", "_law_left", "_law_found", "_law_turn"] ["_law_dice_here", "_law_items"] (defScope sMixed) := ⟨rfl, rfl, rfl, by decide +kernel, rfl, by decide +kernel, by decide +kernel⟩
theorem ok_mixed {f : Addr} {fd : FuncData} (F : Fun K "_law_mixed" "_law_mixed" sMixed f fd) (T : TM K mg fR fP) (G : FnOk P w K mg base CX0 1 fR fdR ["_law_dice_here", "_law_total"] spRoll) (bR : Binds K fdR ["_law_dice_here", "_law_total"] []) :
    FnOk P w K mg base CX0 2 f fd ["_law_dice_here", "_law_items"] spMixed := by
  refine F.ok scMixed (fun vs H Q E h => ?_) (fun cdv A outer s H vs Q E hr h => ?_)
  · obtain ⟨p, a, xs, rfl, _⟩ := h
    rfl
  · obtain ⟨p, a, xs, rfl, hp, hne, ha, h1, k⟩ := h
    refine ⟨_, pss_cons (ps_par (i := 2) (j := 3) rfl scMixed.nd rfl rfl (by decide) rfl rfl (pa_cons (pe_callTy call_list_of (by rfl) T.list (by decide +kernel) (pa_cons (pv 1) pa_nil)) (pa_cons (pe_lst pa_nil) pa_nil)) rfl)
      (pss_cons (ps_for PassesOwn.never rfl (pi_range1 (by rfl) T.range (pa_cons (pe_callB call_len_seq (by rfl) T.len PySem.boot_len (pa_cons (pv 1) pa_nil)) pa_nil)) (pg_name (i := 4) scMixed.nd rfl (Or.inl rfl))
        (pss_one (ps_expr (pe_bm PySem.F.plainAttrs_list PySem.F.slot_list_append PySem.F.type_list_append mt_append (pv 3) (pa_cons (pe_bm PySem.F.plainAttrs_list PySem.F.slot_list_pop PySem.F.type_list_pop mt_popAt (pv 2)
          (pa_cons (pe_call G hr (by rfl) T.gR T.kR bR .nil pass0 (pa_cons (pv 0) (pa_cons (pe_callB call_len_seq (by rfl) T.len PySem.boot_len (pa_cons (pv 2) pa_nil)) pa_nil))) pa_nil)) pa_nil)))))
      (pss_one (ps_ret (pv 3)))), ?_⟩
    refine ⟨_, rfl, a, xs, rfl, .inl (SqL.of ha), fun l hl => ?_⟩
    have hal : a ≠ l := ne_of_none ha hl
    have hpl : p ≠ l := by
      obtain ⟨x, y, z, e⟩ := hp
      exact ne_of_none e hl
    refine ⟨Nat.zero_le _, fun q hq => ⟨_, _, rfl, ?_⟩⟩
    have hql : l ≠ q := fun e => by rw [← e, upd_same] at hq; cases hq
    have hq0 : H q = none := by rw [upd_ne hql.symm] at hq; exact hq
    have haq : a ≠ q := ne_of_none ha hq0
    have hpq : p ≠ q := by
      obtain ⟨x, y, z, e⟩ := hp
      exact ne_of_none e hq0
    have ha' : upd (upd H l (.lst xs)) q (.lst []) a = some (.lst xs) := by rw [upd_ne haq, upd_ne hal]; exact ha
    refine ⟨_, rfl, a, xs, rfl, .inl (SqL.of ha'), (xs.length : Int), rfl, by omega, by omega, for_range (n := xs.length) (fun i σ H' => ∃ (left found : List V) (v : Option V), σ = [some (.ref p), some (.ref a), some (.ref l), some (.ref q), v] ∧ Kd p H H' ∧ DiceAt H' p ∧ H' l = some (.lst left) ∧ H' q = some (.lst found) ∧ (found ++ left).Perm xs ∧ left.length + i = xs.length)
      ⟨xs, [], none, rfl, fun b o nb e => ?_, ?_, ?_, upd_same, by simp, rfl⟩ ?_ ?_⟩
    · rw [upd_ne (ne_of_none e hq0), upd_ne (ne_of_none e hl)]; exact e
    · obtain ⟨x, y, z, e⟩ := hp
      exact ⟨x, y, z, by rw [upd_ne hpq, upd_ne hpl]; exact e⟩
    · rw [upd_ne hql, upd_same]
    · rintro i σ H1 hi ⟨left, found, v, rfl, kd, dc, h1l, h1q, pm, len⟩
      have fl : found.length ≤ 1000 := by
        have := pm.length_eq
        rw [List.length_append] at this
        omega
      refine ⟨_, rfl, .inl ⟨rfl, _, SqL.of h1q⟩, _, rfl, .inl ⟨rfl, _, SqL.of h1l⟩, _, rfl, _, rfl, l, left, rfl, .inl (SqL.of h1l), p, _, rfl, dc, by omega, by omega, fun r H2 r0 r1 kd2 dc2 => ?_⟩
      have h2l := kd2 _ _ hpl.symm h1l
      have h2q := kd2 _ _ hpq.symm h1q
      have hr1 : r.toNat < left.length := by omega
      refine ⟨l, left, r, r.toNat, left[r.toNat], rfl, rfl, h2l, by omega, by omega, seqIndex_of r0 r1, List.getElem?_eq_getElem hr1, q, found, _, rfl, rfl, ?_, small1000 fl, ?_⟩
      · rw [upd_ne hql.symm]; exact h2q
      · refine ⟨left.eraseIdx r.toNat, found ++ [left[r.toNat]], _, rfl, fun b o nb e => ?_, ?_, ?_, upd_same, ?_, ?_⟩
        · rw [upd_ne (ne_of_none e hq0), upd_ne (ne_of_none e hl)]
          exact kd2 _ _ nb (kd _ _ nb e)
        · obtain ⟨x, y, z, e⟩ := dc2
          exact ⟨x, y, z, by rw [upd_ne hpq, upd_ne hpl]; exact e⟩
        · rw [upd_ne hql, upd_same]
        · rw [List.append_assoc]
          exact ((erase_perm left r.toNat hr1).append_left found).trans pm
        · rw [List.length_eraseIdx_of_lt hr1]
          omega
    · rintro σ H1 ⟨left, found, v, rfl, kd, dc, h1l, h1q, pm, len⟩
      have hn : left = [] := List.eq_nil_of_length_eq_zero (by omega)
      rw [hn, List.append_nil] at pm
      exact ⟨_, rfl, k found q H1 pm hq0 h1q kd dc⟩
end
end K0

/-! ## A8 -/
set_option maxRecDepth 100000
set_option maxHeartbeats 2000000
namespace K0
open PySem L2
abbrev sDiff : Stmt := top 16
abbrev sDFrom : Stmt := top 18
theorem seqT {K : PySem.W.Frag} {H H' : Hp} {a : Addr} {xs : List V} (e : Same H H') (h : SqT K H a xs) : SqT K H' a xs :=
  h.imp (fun r => r.imp (fun q => e _ _ q) fun ⟨o, q⟩ => ⟨o, e _ _ q⟩) id
/-! ### lists without repetition -/
def ded : List Str → List Str
  | [] => []
  | x :: r => if x ∈ ded r then ded r else x :: ded r
theorem ded_mem : ∀ (xs : List Str) (k : Str), k ∈ ded xs ↔ k ∈ xs
  | [], _ => Iff.rfl
  | x :: r, k => by
    unfold ded
    have ih := ded_mem r
    split
    · rename_i h
      rw [ih, List.mem_cons]
      exact ⟨.inr, fun z => z.elim (fun e => by rw [e]; exact (ih x).mp h) id⟩
    · rw [List.mem_cons, List.mem_cons, ih]
theorem ded_nodup : ∀ xs : List Str, (ded xs).Nodup
  | [] => List.Pairwise.nil
  | x :: r => by
    unfold ded
    split
    · exact ded_nodup r
    · rename_i h
      exact List.nodup_cons.mpr ⟨h, ded_nodup r⟩
theorem ded_le : ∀ xs : List Str, (ded xs).length ≤ xs.length
  | [] => Nat.le_refl _
  | x :: r => by
    unfold ded
    have := ded_le r
    split <;> simp only [List.length_cons] <;> omega
theorem ded_full : ∀ xs : List Str, (ded xs).length = xs.length ↔ xs.Nodup
  | [] => ⟨fun _ => List.Pairwise.nil, fun _ => rfl⟩
  | x :: r => by
    have ih := ded_full r
    have le := ded_le r
    unfold ded
    split
    · rename_i h
      rw [ded_mem] at h
      constructor
      · intro e
        simp only [List.length_cons] at e
        omega
      · intro n
        exact absurd h (List.nodup_cons.mp n).1
    · rename_i h
      rw [ded_mem] at h
      rw [List.nodup_cons, List.length_cons, List.length_cons, Nat.add_right_cancel_iff, ih]
      exact ⟨fun z => ⟨h, z⟩, fun z => z.2⟩
theorem ded_len {xs L : List Str} (h : L.Nodup) (m : ∀ k, k ∈ L ↔ decide (k ∈ xs) = true) : L.length = (ded xs).length :=
  ((List.perm_ext_iff_of_nodup h (ded_nodup xs)).mpr fun k => by rw [m, ded_mem, decide_eq_true_eq]).length_eq
def spDiff (K : PySem.W.Frag) : Sp := fun vs H Q _ => ∃ (a : Addr) (xs : List Str), vs = [.ref a] ∧ (SqT K H a (xs.map V.str) ∨ SqL K H a (xs.map V.str)) ∧ xs.length ≤ 1000 ∧ ∀ H', Same H H' → Q (.bl (decide xs.Nodup)) H'
structure T4 (K : PySem.W.Frag) (mg : Str → Option Value) (fI fW fN : Addr) : Prop extends T3 K mg fI fW fN where
  set : mg "set" = none
def tkeys (kvs : List (Key × V)) (ks : List Str) : Bool := ks.all fun k => (valV kvs (.inr k)).isSome
def onDct (H : Hp) (p : List (Key × V) → Bool) : V → Bool
  | .ref a => match H a with
    | some (.dK kvs) => p kvs
    | _ => false
  | _ => false
theorem onDct_no {H : Hp} {p : List (Key × V) → Bool} {v : V} (h : isDctV H v = false) : onDct H p v = false := by
  cases v with
  | ref a =>
    simp only [isDctV] at h
    simp only [onDct]
    cases e : H a with
    | none => rfl
    | some o => cases o <;> first | rfl | (simp [e] at h)
  | _ => rfl
theorem isDct_at {H : Hp} {v : V} (h : isDctV H v = true) : ∃ a kvs, v = .ref a ∧ H a = some (.dK kvs) := by
  cases v with
  | ref a =>
    simp only [isDctV] at h
    cases e : H a with
    | none => simp [e] at h
    | some o => cases o <;> first | exact ⟨a, _, rfl, e⟩ | (simp [e] at h)
  | _ => cases h
/-- a dict's keys are texts, few -/
def Dk (H : Hp) (v : V) : Prop := ∀ a kvs, v = .ref a → H a = some (.dK kvs) → kvs.length ≤ 1000 ∧ ∀ p ∈ kvs, ∃ z, p.1 = Sum.inr z
def fromP (ks : List Str) (kvs : List (Key × V)) : Bool := decide (kvs.length = (ded ks).length) && tkeys kvs ks
def spDFrom (K : PySem.W.Frag) : Sp := fun vs H Q _ => ∃ (a : Addr) (ks : List Str) (v : V), vs = [.ref a, v] ∧ SqT K H a (ks.map V.str) ∧ ks.length ≤ 1000 ∧ Da H v ∧ Dk H v ∧ ∀ H', Same H H' → Q (.bl (onDct H (fromP ks) v)) H'
theorem strs_all (xs : List Str) (p : Str → Bool) : ((List.range xs.length).map fun i => p (xs.getD i Str.empty)).all id = xs.all p := by
  have e : (List.range xs.length).map (fun i => xs.getD i Str.empty) = xs := by
    apply List.ext_getElem
    · simp
    · intro i h1 h2
      simp at h1
      simp [h1]
  have e2 : xs.all p = ((List.range xs.length).map (fun i => xs.getD i Str.empty)).all p := by rw [e]
  rw [e2, List.all_map, List.all_map]
  rfl
section
variable {P : Program} {w : World} {K : PySem.W.Frag} {mg : Str → Option Value} {base : Heap} {fI fW fN : Addr} {fdI fdC fdW fdN : FuncData}
theorem scDiff : FnScope ["values"] ["values"] (defScope sDiff) := ⟨rfl, rfl, rfl, by decide +kernel, rfl, by decide +kernel, by decide +kernel⟩
theorem ok_diff {f : Addr} {fd : FuncData} (F : Fun K "are_different" "are_different" sDiff f fd) (T : T4 K mg fI fW fN) : FnOk P w K mg base CX0 1 f fd ["values"] (spDiff K) := by
  refine F.ok scDiff (fun vs H Q E h => ?_) (fun cdv A outer s H vs Q E hr h => ?_)
  · obtain ⟨a, xs, rfl, _⟩ := h
    rfl
  · obtain ⟨a, xs, rfl, hs, hl, k⟩ := h
    refine ⟨_, pss_one (ps_ret (pe_cmpR op_eq (pe_callB call_lenTx (by rfl) T.len PySem.boot_len (pa_cons (pe_callTy (cr_setTx rfl) (by rfl) T.set (by decide +kernel) (pa_cons (pv 0) pa_nil)) pa_nil)) (pe_callB call_len_seq (by rfl) T.len PySem.boot_len (pa_cons (pv 0) pa_nil)) (nomark _))), ?_⟩
    refine ⟨_, rfl, a, xs, rfl, hs, hl, fun p n hn hp => ⟨p, _, n, rfl, upd_same, by omega, fun ⟨L, l1, l2, l3⟩ => ?_⟩⟩
    have sm : Same H (upd H p (SetTO w p (fun j => decide (j ∈ xs)) n)) := Same.new _ hp
    have hs' := hs.imp (fun z => seqT sm z) (fun z => sm.seq z)
    refine ⟨_, rfl, a, _, rfl, hs'.symm, rfl, ?_⟩
    have e : n = (ded xs).length := by rw [← l3]; exact ded_len l1 l2
    have e2 : decide (V.int (n : Int) = V.int ((xs.map V.str).length : Int)) = decide xs.Nodup := by
      refine decide_eq_decide.mpr ?_
      rw [V.int.injEq, List.length_map, Int.ofNat_inj, e]
      exact ded_full xs
    have k' := k _ sm
    rw [← e2] at k'
    exact k'
theorem scDFrom : FnScope ["keys", "value", "key"] ["keys", "value"] (defScope sDFrom) := ⟨rfl, rfl, rfl, by decide +kernel, rfl, by decide +kernel, by decide +kernel⟩
theorem ok_dFrom {f : Addr} {fd : FuncData} (F : Fun K "is_dict_from" "is_dict_from" sDFrom f fd) (T : T4 K mg fI fW fN) : FnOk P w K mg base CX0 1 f fd ["keys", "value"] (spDFrom K) := by
  refine F.ok scDFrom (fun vs H Q E h => ?_) (fun cdv A outer s H vs Q E hr h => ?_)
  · obtain ⟨a, xs, v, rfl, _⟩ := h
    rfl
  · obtain ⟨a, ks, v, rfl, hs, hl, d, dk, k⟩ := h
    refine ⟨_, pss_cons (ps_if (pw_or (pt_not (pt_val (pe_callB call_isi (by rfl) T.isi (by decide +kernel) (pa_cons (pv 1) (pa_cons (pe_bltn (v := .ty "dict") (by rfl) T.dct (by decide +kernel) rfl) pa_nil)))))
        (pw_or1 (pt_cmpR op_ne (pe_callB call_lenD (by rfl) T.len PySem.boot_len (pa_cons (pv 1) pa_nil)) (pe_callB call_lenTx (by rfl) T.len PySem.boot_len (pa_cons (pe_callTy (cr_setTx rfl) (by rfl) T.set (by decide +kernel) (pa_cons (pv 0) pa_nil)) pa_nil)) (nomark _)))).pt
        (pss_one (ps_ret pe_bl)) pss_nil)
      (pss_one (ps_ret (pe_and (pe_callB (cr_all rfl) (by rfl) T.all (by decide +kernel) (pa_cons (pe_lc (own := [("key", 2)]) (g := gName 2) (tt := tYes) rfl scDFrom.nd (pi_tup (pv 0))
        (blkOk_by (own := [("key", 2)]) (N := ["keys", "value", "key"]) (sc := defScope sDFrom) (by decide +kernel)) (fun _ _ _ _ _ => pg_name (i := 2) scDFrom.nd rfl (Or.inl rfl)) (fun _ _ _ _ _ => pts_nil)
        (fun _ _ _ _ _ => pe_cmp (pc_din (hu_of hr) (pv 2) (pv 1)))) pa_nil))
        (pe_one (pe_not (pe_callB (cr_any rfl) (by rfl) T.any (by decide +kernel) (pa_cons (pe_lock (pe_lc (own := [("key", 2)]) (g := gName 2) (tt := tYes) rfl scDFrom.nd (pi_keys (pv 1))
        (blkOk_by (own := [("key", 2)]) (N := ["keys", "value", "key"]) (sc := defScope sDFrom) (by decide +kernel)) (fun _ _ _ _ _ => pg_name (i := 2) scDFrom.nd rfl (Or.inl rfl)) (fun _ _ _ _ _ => pts_nil)
        (fun _ _ _ _ _ => pe_callB (id := "isinstance") (r := rIsi K) call_isi (by rfl) T.isi (by decide +kernel) (pa_cons (pv 2) (pa_cons (pe_bltn (v := .ty "bool") (by rfl) T.bool (by decide +kernel) rfl) pa_nil))))) pa_nil))))))), ?_⟩
    obtain ⟨t, ty, kt⟩ := d.kDct (K := K)
    refine ⟨_, rfl, _, _, t, _, isDctV H v, rfl, .ty _, ty, kt, isDctV H v, rfl, ?_⟩
    by_cases c : isDctV H v = true
    · obtain ⟨dd, kvs, rfl, hd⟩ := isDct_at c
      obtain ⟨hkl, hkk⟩ := dk dd kvs rfl hd
      have k0 : ∀ H', Same H H' → Q (.bl (fromP ks kvs)) H' := fun H' s' => by
        have k' := k H' s'
        simp only [onDct, hd] at k'
        exact k'
      refine if_neg_of (by rw [c]; rfl) ⟨_, rfl, dd, kvs, rfl, hd, _, rfl, a, ks, rfl, .inl hs, hl, fun p n hn hp => ⟨p, _, n, rfl, upd_same, by omega, fun ⟨L, l1, l2, l3⟩ => ?_⟩⟩
      have sm : Same H (upd H p (SetTO w p (fun j => decide (j ∈ ks)) n)) := K0.Same.new _ hp
      have e : n = (ded ks).length := by rw [← l3]; exact ded_len l1 l2
      have e2 : decide (V.int (kvs.length : Int) = V.int (n : Int)) = decide (kvs.length = (ded ks).length) := by
        refine decide_eq_decide.mpr ?_
        rw [V.int.injEq, Int.ofNat_inj, e]
      refine ⟨rfl, _, rfl, ?_⟩
      show if (!decide (V.int (kvs.length : Int) = V.int (n : Int))) = true then _ else _
      rw [e2]
      by_cases c1 : kvs.length = (ded ks).length
      · have er : fromP ks kvs = tkeys kvs ks := by unfold fromP; rw [decide_eq_true c1]; rfl
        refine if_neg_of (by rw [decide_eq_true c1]; rfl) ?_
        refine ⟨_, rfl, a, rfl, ⟨_, seqT sm hs⟩, fun D hD => lc_pure (f := fun i => .bl (valV kvs (.inr (ks.getD i Str.empty))).isSome) (walk_tup (K := K) (a := a) (xs := ks.map V.str)) (by rw [List.length_map]; exact small1000 hl) hD (fun H1 s1 => seqT s1 (seqT sm hs)) ?_ gName_mono ?_⟩
        · rintro i x H2 H3 hi s2 ⟨rfl, hxi⟩
          rw [List.getElem?_map] at hxi
          obtain ⟨z, hz, rfl⟩ := Option.map_eq_some_iff.mp hxi
          have ez : ks.getD i Str.empty = z := by simp [List.getD, hz]
          refine ⟨rfl, fun Q' q => ⟨_, rfl, _, rfl, dd, _, rfl, DGet.k (k := Sum.inr z) (s2 _ _ (sm _ _ hd)), ?_⟩⟩
          have q0 := q _ (K0.Same.rfl')
          rw [ez] at q0
          exact q0
        · intro H2 s2 hD2
          refine ⟨D, (List.range (ks.map V.str).length).map fun i => (valV kvs (.inr (ks.getD i Str.empty))).isSome, rfl, ?_, ?_⟩
          · rw [List.map_map]
            exact SqL.of hD2
          · rw [List.length_map, strs_all ks (fun k => (valV kvs (.inr k)).isSome)]
            refine ⟨_, rfl, ?_⟩
            by_cases c2 : tkeys kvs ks = true
            · refine if_pos_of c2 ?_
              have hd2 := s2 _ _ (sm _ _ hd)
              refine ⟨dd, _, hd2, True.intro, fun od => ?_⟩
              refine ⟨_, rfl, dd, od, rfl, .inl ⟨kvs, upd_same, fun D2 hD2' => lc_pure (f := fun _ => .bl false) (walk_keys (d := dd) (o := od) (kvs := kvs)) (small1000 hkl) hD2' (fun H1 s1 => s1 _ _ upd_same) ?_ gName_mono ?_⟩⟩
              · rintro i x H3 H4 hi s3 ⟨rfl, k1, v1, hk1, rfl⟩
                obtain ⟨z, hz⟩ := hkk _ (List.mem_of_getElem? hk1)
                have hz' : k1 = Sum.inr z := hz
                subst hz'
                exact ⟨rfl, fun Q' q => ⟨_, rfl, V.str z, _, _, _, false, rfl, .ty _, .base (.str z), kit_ty (by show kitB "str" "bool" = some false; decide +kernel), q _ K0.Same.rfl'⟩⟩
              · intro H3 s3 hD3
                refine ⟨s3 _ _ upd_same, ?_⟩
                refine ⟨D2, (List.range kvs.length).map fun _ => false, rfl, ?_, ?_⟩
                · rw [List.map_map]
                  refine SqL.of ?_
                  have nd : D2 ≠ dd := fun z => by rw [z, upd_same] at hD2'; cases hD2'
                  rw [upd_ne nd]
                  exact hD3
                · have ef : ((List.range kvs.length).map fun _ => false).any id = false := by
                    rw [List.any_map]
                    exact List.any_eq_false.mpr fun _ _ => by simp
                  rw [ef]
                  refine ⟨_, rfl, ?_⟩
                  have k' := k0 (upd H3 dd (.dK kvs)) fun b o eb => ?_
                  · rw [er, c2] at k'
                    exact k'
                  · by_cases hb : b = dd
                    · rw [hb, upd_same, ← hd, ← hb]; exact eb.symm ▸ rfl
                    · rw [upd_ne hb]
                      exact s3 _ _ (by rw [upd_ne hb]; exact s2 _ _ (sm _ _ eb))
            · have c2' := Bool.eq_false_iff.mpr c2
              refine if_neg_of c2' ?_
              have k' := k0 H2 fun b o eb => s2 _ _ (sm _ _ eb)
              rw [er, c2'] at k'
              exact k'
      · have er : fromP ks kvs = false := by unfold fromP; rw [decide_eq_false c1]; rfl
        refine if_pos_of (by rw [decide_eq_false c1]; rfl) ?_
        have k' := k0 _ sm
        rw [er] at k'
        exact k'
    · have c' := Bool.eq_false_iff.mpr c
      refine if_pos_of (by rw [c']; rfl) ?_
      refine if_pos_of rfl ?_
      have k' := k H K0.Same.rfl'
      rw [onDct_no c'] at k'
      exact k'
end
end K0

/-! ## D1 -/
set_option maxRecDepth 100000
set_option maxHeartbeats 2000000
namespace K0
open PySem PySem.Spec PyProof.Rows L2
/-! ### defs that are entered where nothing is being shown -/
structure FnG (P : Program) (w : World) (K : PySem.W.Frag) (mg : Str → Option Value) (base : Heap) (CX : CXT) (k : Nat) (f : Addr) (fd : FuncData) (ps : List Str) (sp : Sp) : Prop where
  len : ∀ vs H Q E, sp vs H Q E → vs.length = ps.length
  run : ∀ (A : Around) (outer : List Env) (s : Shared) (H : Hp) (args : Args) (us : List Value) (vs : List V) (Q : VK) (E : XK), Room k A → A.guards = some [] → Env0 P w K mg base A outer s H → BindsTo s fd args (ps.zip us) → Vals vs us → sp vs H Q E →
    codeAny (model P w) A (.call (.ref f) args) (CR CX outer P w H s Q E) s
section
variable {P : Program} {w : World} {K : PySem.W.Frag} {mg : Str → Option Value} {base : Heap}
theorem FnG.of {CX : CXT} {k : Nat} {f : Addr} {fd : FuncData} {ps : List Str} {sp : Sp} (F : FnOk P w K mg base CX k f fd ps sp) : FnG P w K mg base CX k f fd ps sp :=
  ⟨F.len, fun A outer s H args us vs Q E hr _ => F.run A outer s H args us vs Q E hr⟩
/-- the def's body, where nothing is being shown -/
theorem gfn {x qual : Str} {st : Stmt} {f : Addr} {fd : FuncData} {N ps : List Str} {k : Nat} {sp : Sp} {CX : CXT} (F : Fun K x qual st f fd) (S : FnScope N ps (defScope st)) (len : ∀ vs H Q E, sp vs H Q E → vs.length = ps.length)
    (hbody : ∀ (cdv : Value) (A : Around) (outer : List Env) (s : Shared) (H : Hp) (vs : List V) (Q : VK) (E : XK), Room k (A.deeper (envOfC qual (defScope st) s.heap.objs.size f cdv)) → (A.deeper (envOfC qual (defScope st) s.heap.objs.size f cdv)).guards = some [] → sp vs H Q E →
      ∃ t, PSs (cxOf CX P w K mg base N qual (defScope st) f cdv A outer s H E) (defBody st) t ∧ t { nx := fun _ H' => Q .non H', rt := Q } (L2.start N vs) H) : FnG P w K mg base CX (k + 1) f fd ps sp := by
  obtain ⟨oc, od, kV, doc, pm, an, cdv, ct, osl, rfl, lk, hcd⟩ := F.ex
  refine ⟨len, fun A outer s H args us vs Q E hr hgd e0 hb r hsp => ?_⟩
  have hl := len _ _ _ _ hsp
  have KX : K.In s.heap := e0.mod.kin.keeps fun b o e => (e0.bs b o e).1
  have lim : s.heap.NoLimit := e0.mod.nolimit.keeps fun b o e => (e0.bs b o e).1
  have hkind : ∀ y ∈ ps.zip us, (defScope st).names.lookup y.1 = some .local ∨ ((defScope st).names.lookup y.1 = some .cell ∧ ((cellsFrom (s.heap.objs.size + 1) (defScope st).names []).lookup y.1).isSome = true) := fun ⟨n, v⟩ hy => by
    rcases S.par n (List.of_mem_zip hy).1 with q | q
    · exact .inl q
    · exact .inr ⟨q, PySem.W.cellsFrom_some _ _ _ (.inl q)⟩
  refine codeAny_call_function hr.depth (KX _ _ lk) rfl S.co S.gen rfl (PySem.W.codeRec_of KX hcd) (hb _ _ _ _ ?_)
  refine wpAny_newFunctionEnv_cells S.kind hkind fun env he s1 x => ?_
  subst he
  refine ⟨lim.keeps x.toInCall.keep, codeAny_func ?_⟩
  obtain ⟨t, ht, hq⟩ := hbody cdv A outer s H vs Q E (hr.deeper _) (by show A.guards = some []; exact hgd) hsp
  have I : Inv (cxOf CX P w K mg base N qual (defScope st) f cdv A outer s H E) [] (L2.start N vs) H s1 := inv_start S hr.hd e0 hl r x
  refine wpAny_mono (ht.run [] s1 (L2.start N vs) H _ I hq) (fun fl s' hs => ?_) fun e s' hs => hs
  have fin : ∀ {σ' : L2.St} {H' : Hp} {v : V} {u : Value}, Inv (cxOf CX P w K mg base N qual (defScope st) f cdv A outer s H E) [] σ' H' s' → RelV v u → Q v H' → CE outer P w H s Q u s' :=
    fun {σ' H' v u} J rv q => ⟨v, H', J.os, J.bare, J.base, J.hok, rv, q⟩
  cases fl with
  | ret u =>
    obtain ⟨v, σ', H', J, rv, q⟩ := hs
    exact fin J rv q
  | next =>
    obtain ⟨σ', H', J, q⟩ := hs
    exact fin (v := V.non) (u := Value.none) J rfl q
  | brk =>
    obtain ⟨_, _, _, q⟩ := hs
    exact False.elim q
  | cont =>
    obtain ⟨_, _, _, q⟩ := hs
    exact False.elim q
end
section
variable {X : Cx} {CX : CXT} {k : Nat} {f : Addr} {fd : FuncData} {ps : List Str} {sp : Sp} {dvs : List V} {ds : List Value} {E : XK} {x : Str} {p pos : Pos} {e : Expr} {es : List Expr} {t : TA}
theorem pe_callG (F : FnG X.prog X.w X.K X.mg X.base CX k f fd ps sp) (hr : Room k X.A) (hgd : X.A.guards = some []) (hg : Gl X x) (hm : X.mg x = some (.ref f)) (hk : PySem.W.keepIn X.K (.ref f) = true) (hb : Binds X.K fd ps ds) (hd : Vals dvs ds) (hx : Passes CX X E)
    (ha : PA X (e :: es) t) (hdb : (x == ("__debug__" : Str)) = false := by decide) (he : starEach (e :: es) X.env = (false, eval e X.env) :: starEach es X.env := by rfl) (hpl : (backTo pos (starEach es X.env)).any (·.1) = false := by rfl) :
    PE X (.Call (.Name x p) (e :: es) [] pos) (tCall sp dvs E t) := by
  refine ⟨fun pins s σ H Q I h => wpAny_Call_Name_kw (ld_glob I hg hm ?_ hdb)⟩
  refine PySem.W.callWith_K (h₀ := X.base) I.ok.mod.kin hk (thn (ha.run pos pins s σ H _ I h) fun us s1 ⟨vs, H1, I1, r, q⟩ => ⟨I1.kIn, ?_⟩) he hpl
  have r2 : Vals (vs ++ dvs) (us ++ ds) := r.append hd
  have hl : (us ++ ds).length = ps.length := by rw [← r2.length]; exact F.len _ _ _ _ q
  refine wpAny_call (codeAny_mono (F.run X.A X.stack s1 H1 ⟨us, []⟩ (us ++ ds) (vs ++ dvs) Q E hr hgd I1.env0 (hb s1 us I1.kIn hl) r2 q) fun r s' hq => ?_)
  cases r with
  | error e => exact hx pins σ H1 s1 e s' I1 hq
  | ok fl =>
    cases fl with
    | ret u => exact I1.after hq
    | next => exact False.elim hq
    | brk => exact False.elim hq
    | cont => exact False.elim hq
end
/-! ### repr of data -/
/-- data, or a dict without entries -/
inductive Dq (K : PySem.W.Frag) (H : Hp) : V → PyData → Prop
  | of {v : V} {d : PyData} : Dp K H v d → Dq K H v d
  | emp {a : Addr} : H a = some (.dK []) → Dq K H (.ref a) (.dict [])
theorem small_shown {d : PyData} (h : d.shown.length ≤ 1000) : d.shown.length ≤ sizeLine := Nat.le_of_lt (small1000 h)
mutual
theorem dp_nodict {K : PySem.W.Frag} {H : Hp} : ∀ (d : PyData) (v : V), Dp K H v d → d.hasDict = false
  | .none, _, _ => rfl
  | .bool _, _, _ => rfl
  | .int _, _, _ => rfl
  | .str _, _, _ => rfl
  | .list ds, _, h => by
    cases h with
    | lst _ ha => exact dp_nodicts ds _ ha
  | .tuple ds, _, h => by
    cases h with
    | tup _ ha => exact dp_nodicts ds _ ha
  | .dict _, _, h => by cases h
theorem dp_nodicts {K : PySem.W.Frag} {H : Hp} : ∀ (ds : List PyData) (vs : List V), DpAll K H vs ds → PyData.hasDictAll ds = false
  | [], _, _ => rfl
  | d :: ds, _, h => by
    cases h with
    | cons h1 h2 => simp only [PyData.hasDictAll, dp_nodict d _ h1, dp_nodicts ds _ h2, Bool.or_false]
end
def rRepr (K : PySem.W.Frag) : List V → Hp → VK → Prop := fun vs H Q => ∃ (x : V) (d : PyData), vs = [x] ∧ Dq K H x d ∧ d.showable = true ∧ d.depth ≤ 20 ∧ d.shown.length ≤ 1000 ∧ Q (.str d.shown) H
section
variable {X : Cx}
theorem cr_repr (hgd : X.A.guards = some []) (hu : X.A.units + 64 < cLine) : CallR X (.builtin "repr") (rRepr X.K) := by
  intro pins s σ H vs us Q I r h
  obtain ⟨x, d, rfl, hd, hs, hdp, hl, q⟩ := h
  obtain ⟨u, rfl, rx⟩ := vals1 r
  have fin : ∀ h' (t : Tok) tk, (∀ b o, s.heap.get? b = some o → h'.get? b = some o) → EP X pins σ Q (.str d.shown t) { s with heap := h', toks := tk } := fun h' t tk k => ⟨.str d.shown, H, I.kept k, ⟨t, rfl⟩, q⟩
  cases x with
  | non =>
    cases rx
    have e : d = .none := by
      cases hd with
      | of h => cases h; rfl
    subst e
    exact PySem.P.repr_of_none (fin s.heap _ _ fun _ _ e => e)
  | bl b =>
    cases rx
    have e : d = .bool b := by
      cases hd with
      | of h => cases h; rfl
    subst e
    exact PySem.P.repr_of_bool (by
      have z := fin s.heap s.toks (s.toks + 1) fun _ _ e => e
      cases b <;> exact z)
  | int i =>
    obtain ⟨t, rfl⟩ := rx
    have e : d = .int i := by
      cases hd with
      | of h => cases h; rfl
    subst e
    exact PySem.P.repr_of_int (of_decide_eq_true hs) (fin s.heap _ _ fun _ _ e => e)
  | str z =>
    obtain ⟨t, rfl⟩ := rx
    have e : d = .str z := by
      cases hd with
      | of h => cases h; rfl
    subst e
    exact PySem.P.repr_of_str (fin s.heap _ _ fun _ _ e => e) (small_shown hl)
  | ref a =>
    cases rx
    cases hd with
    | of h =>
      obtain ⟨as, rr⟩ := Dp.reads I d (.ref a) (.ref a) h rfl
      exact repr_of_reads' rr hs (PyData.noDict_hsm (dp_nodict d _ h)) hgd (by omega) (fun _ _ e => e) (fun h' t tk k => fin h' t tk k) (small_shown hl)
    | emp h =>
      obtain ⟨_, lo, vs, kv, o, es, ep, ho, ex, hdd, hes, hnd⟩ := I.hok a _ h
      have e1 : vs = [] := by
        cases kv
        rfl
      have lo' : a ≠ sysModules := by simpa using lo
      subst e1
      obtain ⟨pr, _⟩ := hnd
      have e2 : es.toList = [] := by
        cases h5 : es.toList with
        | nil => rfl
        | cons a b => rw [h5] at pr; cases pr
      have rr : Reads s.heap (.ref a) (.dict []) (a :: [] ++ []) := Reads.dict ho ex.1 hdd (by rw [e2]; exact ReadsAll.nil) (by rw [e2]; exact ReadsAll.nil)
      exact repr_of_reads' rr hs (fun _ z => lo' (by have z' : sysModules ∈ [a] := z; exact (List.mem_singleton.mp z').symm)) hgd (by omega) (fun _ _ e => e) (fun h' t tk k => fin h' t tk k) (small_shown hl)
  | byt _ => cases hd with | of h => cases h
  | flt _ => cases hd with | of h => cases h
  | ty _ => cases hd with | of h => cases h
end
end K0

/-! ## A11 -/
set_option maxRecDepth 100000
set_option maxHeartbeats 2000000
namespace K0
open PySem L2
abbrev sNaming : Stmt := top 19
/-- an own class of errors, over one of Python's -/
structure XC (K : PySem.W.Frag) (mg : Str → Option Value) (x : Str) (C : Addr) : Prop where
  gC : mg x = some (.ref C)
  kC : PySem.W.keepIn K (.ref C) = true
  sB : PySem.W.subIn K (.ref C) (.type "BaseException") = some true
  tC : PySem.W.typeIn K (.ref C) = some (.type "type")
abbrev veM : List Value := [.type "ValueError", .type "Exception", .type "BaseException", .type "object"]
structure XV (K : PySem.W.Frag) (mg : Str → Option Value) (x : Str) (C : Addr) : Prop extends XC K mg x C where
  xC : PySem.W.excIn K C veM "ValueError.__new__" = true
/-- a dict's values are short texts -/
def Dv (H : Hp) (v : V) : Prop := ∀ a kvs, v = .ref a → H a = some (.dK kvs) → ∀ p ∈ kvs, ∃ z, p.2 = .str z ∧ z.length ≤ 1000
def vals (kvs : List (Key × V)) : List V := kvs.map (·.2)
def strV : V → Str
  | .str z => z
  | _ => Str.empty
def nmP (ks : List Str) (kvs : List (Key × V)) : Bool := fromP ks kvs && ((kvs.map fun p => strV p.2).all nameS && decide (kvs.map fun p => strV p.2).Nodup)
def ksOf (H : Hp) : V → List Str
  | .ref a => match H a with
    | some (.tup xs) => xs.map strV
    | _ => []
  | _ => []
def spNaming (C : Addr) : Sp := fun vs H Q E => ∃ (v0 v : V), vs = [v0, v] ∧ Da H v0 ∧ Tu H v0 ∧ Da H v ∧ Dk H v ∧ Dv H v ∧
  (onTup H (fun xs => xs.all nameV) v0 = true → ∀ H', Same H H' → Q (.bl (onDct H (nmP (ksOf H v0)) v)) H') ∧ (onTup H (fun xs => xs.all nameV) v0 = false → ∀ H', Same H H' → E (.ref C) none H')
structure TN (K : PySem.W.Frag) (mg : Str → Option Value) (fAn fDf fDi CI : Addr) : Prop where
  tup : mg "tuple" = none
  gAn : mg "are_names" = some (.ref fAn)
  kAn : PySem.W.keepIn K (.ref fAn) = true
  gDf : mg "is_dict_from" = some (.ref fDf)
  kDf : PySem.W.keepIn K (.ref fDf) = true
  gDi : mg "are_different" = some (.ref fDi)
  kDi : PySem.W.keepIn K (.ref fDi) = true
  io : XV K mg "InvalidOperation" CI
theorem same_at {H H1 : Hp} {b : Addr} {o : HO} (d : Da H (.ref b)) (s : Same H H1) (e : H1 b = some o) : H b = some o := by
  cases d with
  | lst h => rw [← e, s _ _ h, h]
  | tup h => rw [← e, s _ _ h, h]
  | dK h => rw [← e, s _ _ h, h]
theorem onDct_same {H H1 : Hp} {v : V} {p : List (Key × V) → Bool} (d : Da H v) (s : Same H H1) : onDct H1 p v = onDct H p v := by
  cases d with
  | non => rfl
  | bl b => rfl
  | int b => rfl
  | str b => rfl
  | lst h => simp only [onDct, h, s _ _ h]
  | tup h => simp only [onDct, h, s _ _ h]
  | dK h => simp only [onDct, h, s _ _ h]
theorem onDct_and {H : Hp} {v : V} {ks : List Str} (c : onDct H (fromP ks) v = false) : onDct H (nmP ks) v = false := by
  cases v with
  | ref a =>
    simp only [onDct] at c ⊢
    cases e : H a with
    | none => rfl
    | some o =>
      cases o <;> first | rfl | (simp only [e] at c; simp only [nmP, c, Bool.false_and])
  | _ => rfl
theorem names_strs : ∀ (xs : List V), xs.all nameV = true → xs = (xs.map strV).map V.str
  | [], _ => rfl
  | x :: r, h => by
    rw [List.all_cons, Bool.and_eq_true] at h
    cases x with
    | str z =>
      rw [List.map_cons, List.map_cons, ← names_strs r h.2]
      rfl
    | _ => cases h.1
section
variable {P : Program} {w : World} {K : PySem.W.Frag} {mg : Str → Option Value} {base : Heap} {fAn fDf fDi CI : Addr} {fdAn fdDf fdDi : FuncData}
theorem scNaming : FnScope ["names", "value", "given"] ["names", "value"] (defScope sNaming) := ⟨rfl, rfl, rfl, by decide +kernel, rfl, by decide +kernel, by decide +kernel⟩
theorem ok_naming {f : Addr} {fd : FuncData} (F : Fun K "is_naming" "is_naming" sNaming f fd) (T : TN K mg fAn fDf fDi CI)
    (GA : FnOk P w K mg base CX0 2 fAn fdAn ["value"] spAreNam) (bA : Binds K fdAn ["value"] []) (GF : FnOk P w K mg base CX0 1 fDf fdDf ["keys", "value"] (spDFrom K)) (bF : Binds K fdDf ["keys", "value"] [])
    (GD : FnOk P w K mg base CX0 1 fDi fdDi ["values"] (spDiff K)) (bD : Binds K fdDi ["values"] []) : FnOk P w K mg base (L2.CX P w) 3 f fd ["names", "value"] (spNaming CI) := by
  refine F.okX scNaming (fun vs H Q E h => ?_) (fun cdv A outer s H vs Q E hr h => ?_)
  · obtain ⟨v0, v, rfl, _⟩ := h
    rfl
  · obtain ⟨v0, v, rfl, d0, t0, d, dk, dv, k1, k2⟩ := h
    have hr1 : Room 1 _ := hr.mono (by decide)
    refine ⟨_, pss_cons (ps_if (pt_not (pt_val (pe_call GA hr (by rfl) T.gAn T.kAn bA .nil pass0 (pa_cons (pv 0) pa_nil)))) (pss_one (ps_raise rfl (takes_of rfl rfl rfl rfl) (pmk_own PySem.F.excBase_ValueError T.io.xC T.io.gC T.io.kC (raises_own T.io.sB T.io.tC) rfl))) pss_nil)
      (pss_cons (ps_if (pt_not (pt_val (pe_call GF hr1 (by rfl) T.gDf T.kDf bF .nil pass0 (pa_cons (pv 0) (pa_cons (pv 1) pa_nil))))) (pss_one (ps_ret pe_bl)) pss_nil)
      (pss_cons (ps_set (i := 2) scNaming.nd rfl (Or.inl rfl) (pe_callTy (call_tupleVals rfl) (by rfl) T.tup (by decide +kernel) (pa_cons (pe_bm0 PySem.F.plainAttrs_dict PySem.F.slot_dict_values PySem.F.type_dict_values mt_dvals (pv 1)) pa_nil)))
      (pss_one (ps_ret (pe_and (pe_call GA hr (by rfl) T.gAn T.kAn bA .nil pass0 (pa_cons (pv 2) pa_nil)) (pe_one (pe_call GD hr1 (by rfl) T.gDi T.kDi bD .nil pass0 (pa_cons (pv 2) pa_nil)))))))), ?_⟩
    refine ⟨_, rfl, v0, rfl, d0, t0, fun H1 s1 => ⟨_, rfl, ?_⟩⟩
    cases c0 : onTup H (fun xs => xs.all nameV) v0 with
    | false => exact if_pos_of rfl (k2 c0 H1 s1)
    | true =>
      have k1 := k1 c0
      obtain ⟨a, xs, rfl, ha, hall⟩ : ∃ a xs, v0 = .ref a ∧ H a = some (.tup xs) ∧ xs.all nameV = true := by
        have ct : isTupV H v0 = true := by
          cases q : isTupV H v0 with
          | true => rfl
          | false => rw [onTup_no q] at c0; cases c0
        obtain ⟨a, xs, rfl, ha⟩ := isTup_at ct
        simp only [onTup, ha] at c0
        exact ⟨a, xs, rfl, ha, c0⟩
      have ek : ksOf H (.ref a) = xs.map strV := by simp only [ksOf, ha]
      rw [ek] at k1
      have exs := names_strs xs hall
      have hl := (t0 a xs rfl ha).1
      generalize hks : xs.map strV = ks at k1 exs ek
      subst exs
      rw [List.length_map] at hl
      refine if_neg_of rfl ⟨_, rfl, _, rfl, a, ks, v, rfl, SqT.of (s1 _ _ ha), hl, d.same s1, fun b kvs e1 e2 => ?_, fun H2 s2 => ⟨_, rfl, ?_⟩⟩
      · subst e1
        exact dk b kvs rfl (same_at d s1 e2)
      · rw [onDct_same d s1]
        cases c1 : onDct H (fromP ks) v with
        | false =>
          refine if_pos_of rfl ?_
          have k' := k1 H2 (K0.Same.tr s1 s2)
          rw [onDct_and c1] at k'
          exact k'
        | true =>
          obtain ⟨dd, kvs, rfl, hd⟩ : ∃ dd kvs, v = .ref dd ∧ H dd = some (.dK kvs) := by
            cases q : isDctV H v with
            | true => exact isDct_at q
            | false => rw [onDct_no q] at c1; cases c1
          have c1' : fromP ks kvs = true := by simpa only [onDct, hd] using c1
          have k3 : ∀ H', Same H H' → Q (.bl (((kvs.map fun p => strV p.2).all nameS) && decide (kvs.map fun p => strV p.2).Nodup)) H' := fun H' s' => by
            have k' := k1 H' s'
            simp only [onDct, hd, nmP, c1', Bool.true_and] at k'
            exact k'
          have hkl := (dk dd kvs rfl hd).1
          have ev : kvs.map (·.2) = (kvs.map fun p => strV p.2).map V.str := by
            rw [List.map_map]
            refine List.map_congr_left fun q hq => ?_
            obtain ⟨z, hz, _⟩ := dv dd kvs rfl hd q hq
            show q.2 = V.str (strV q.2)
            rw [hz]
            rfl
          have hd2 := s2 _ _ (s1 _ _ hd)
          refine if_neg_of rfl ⟨_, rfl, .inr (.inr (.inl ⟨rfl, .inl ⟨kvs, hd2⟩⟩)), dd, kvs, rfl, rfl, hd2, fun p hp => ⟨p, dd, kvs, rfl, upd_same, ?_, fun t ht => ?_⟩⟩
          · rw [upd_ne (ne_of_none hd2 hp)]
            exact hd2
          · have s3 : Same H (upd (upd H2 p (ValO p dd)) t (.tup (kvs.map (·.2)))) := K0.Same.tr (K0.Same.tr (K0.Same.tr s1 s2) (K0.Same.new _ hp)) (K0.Same.new _ ht)
            rw [ev] at s3 ⊢
            refine ⟨_, rfl, _, rfl, .tup upd_same, fun b xs e1 e2 => ?_, fun H3 s4 => ⟨_, rfl, ?_⟩⟩
            · cases e1
              rw [upd_same] at e2
              cases e2
              refine ⟨by rw [List.length_map, List.length_map]; exact hkl, fun x hx => ?_⟩
              obtain ⟨z, hz, rfl⟩ := List.mem_map.mp hx
              obtain ⟨q, hq, rfl⟩ := List.mem_map.mp hz
              obtain ⟨z, e3, e4⟩ := dv dd kvs rfl hd q hq
              refine ⟨.str _, ?_⟩
              show (strV q.2).length ≤ 1000
              rw [e3]
              exact e4
            · have e5 : onTup (upd (upd H2 p (ValO p dd)) t (.tup ((kvs.map fun p => strV p.2).map V.str))) (fun xs => xs.all nameV) (.ref t) = (kvs.map fun p => strV p.2).all nameS := by
                simp only [onTup, upd_same]
                rw [List.all_map]
                rfl
              rw [e5]
              cases c2 : (kvs.map fun p => strV p.2).all nameS with
              | false =>
                refine if_neg_of rfl ?_
                have k' := k3 H3 (K0.Same.tr s3 s4)
                rw [c2] at k'
                exact k'
              | true =>
                refine if_pos_of rfl ⟨_, rfl, t, _, rfl, .inl (SqT.of (s4 _ _ upd_same)), by rw [List.length_map]; exact hkl, fun H4 s5 => ?_⟩
                have k' := k3 H4 (K0.Same.tr (K0.Same.tr s3 s4) s5)
                rw [c2] at k'
                exact k'
end
end K0

/-! ## N1 -/
set_option maxRecDepth 100000
set_option maxHeartbeats 2000000
/-! N1: what the machine asks of a key of any depth: its hash, its ==, whether it can be seen -/
namespace NS
open PySem PySem.Spec PyProof.Rows L2
/-- at b stands a tuple that is the key k -/
def At (h : Heap) (k : NestedKey) (b : Addr) : Prop := NestedIs h k (.ref b) ∧ k.depth ≤ 8
theorem At.grow {h h' : Heap} {k : NestedKey} {b : Addr} (x : At h k b) (g : ∀ c o, h.get? c = some o → h'.get? c = some o) : At h' k b :=
  ⟨NestedIs.at (fun c o _ _ e _ => g c o e) k _ x.1, x.2⟩
theorem At.one {h : Heap} {k l : NestedKey} {b : Addr} (x : At h k b) (y : At h l b) : k = l := NestedIs.inj _ _ _ x.1 y.1
/-- only a set has changed -/
theorem At.past {h h' : Heap} {k : NestedKey} {a b : Addr} {o : Obj} {rs : Array (Int × Value)} {n : Nat} {t : SetTable} (x : At h k b) (ho : h.get? a = some o) (hd : o.data = .set rs n t) (sb : Heap.SameBut a h h') : At h' k b :=
  ⟨NestedIs.at (fun c u vs m e z => by
    have ne : c ≠ a := fun q => by
      rw [q, ho] at e
      cases e
      rw [hd] at z
      cases z
    exact (sb.2 c ne).trans e) k _ x.1, x.2⟩
section
variable {P : Program} {w : World} {s : Shared}
/-- no class stands in it -/
def NoCls (P : Program) (w : World) (n : Nat) (s : Shared) (v : Value) : Prop := ∀ (A : Around) (E : Value → Shared → Prop) (Q : Bool → Shared → Prop), Q false s → wpAny (model P w) A (ofAClassStatement n v) Q E s
theorem noCls_val {n : Nat} {v : Value} (h : ∀ a, v ≠ .ref a) : NoCls P w n s v := fun A E Q q => by
  cases v with
  | ref a => exact absurd rfl (h a)
  | _ => cases n <;> exact wpAny_pure q
theorem noCls_tup {n : Nat} {a : Addr} {o : Obj} {vs : Array Value} {m : Nat} (ho : s.heap.get? a = some o) (hc : o.cls = .type "tuple") (hd : o.data = .seq vs m) (each : ∀ v ∈ vs.toList, NoCls P w n s v) : NoCls P w (n + 1) s (.ref a) := fun A E Q q => by
  have isT : s.TypeIs (.ref a) "tuple" := ⟨o, ho, hc⟩
  have e : (("tuple" : String) == "tuple") = true := by decide
  unfold ofAClassStatement
  refine wpAny_bind (wpAny_typeOf isT ?_)
  dsimp only
  simp only [e, if_true, Bool.not_true, Bool.false_eq_true, if_false]
  try refine wpAny_bind (wpAny_pure ?_)
  try simp only [Bool.not_true, Bool.false_eq_true, if_false]
  show wpAny _ _ (seqItems? (.ref a) >>= _) _ _ s
  refine wpAny_bind (wpAny_seqItems ho hd ?_)
  dsimp only
  refine wpAny_bind ?_
  show wpAny _ _ (forIn vs _ _) _ _ s
  rw [← Array.forIn_toList]
  refine wpAny_forIn_list _ (fun left r s1 => s1 = s ∧ r.1 = none ∧ ∀ v ∈ left, NoCls P w n s v) _ (fun v left r s1 z => ?_) (fun r s1 z => ?_) _ _ ⟨rfl, rfl, each⟩
  · obtain ⟨rfl, hr, al⟩ := z
    refine wpAny_bind (al v List.mem_cons_self _ _ _ ?_)
    simp only [Bool.false_eq_true, if_false]
    exact wpAny_pure ⟨rfl, rfl, fun u hu => al u (List.mem_cons_of_mem _ hu)⟩
  · obtain ⟨r1, r2⟩ := r
    obtain ⟨rfl, hr, _⟩ := z
    simp only at hr
    subst hr
    exact wpAny_pure q
mutual
theorem noCls : ∀ (k : NestedKey) (v : Value) (n : Nat), NestedIs s.heap k v → k.depth ≤ n → NoCls P w n s v
  | .none, _, _, x, _ => by cases x; exact noCls_val fun _ z => by cases z
  | .num _, _, _, x, _ => by cases x <;> exact noCls_val fun _ z => by cases z
  | .text _, _, _, x, _ => by cases x; exact noCls_val fun _ z => by cases z
  | .tup ks, _, n, x, hn => by
    simp only [NestedKey.depth] at hn
    cases x with
    | tup h1 h2 h3 h4 =>
      match n, hn with
      | n + 1, hn => exact noCls_tup h1 h2 h3 (noClss ks _ n h4 (by omega))
theorem noClss : ∀ (ks : List NestedKey) (vs : List Value) (n : Nat), NestedAll s.heap ks vs → NestedKey.depthAll ks ≤ n → ∀ v ∈ vs, NoCls P w n s v
  | [], _, _, x, _, v, hv => by cases x; cases hv
  | k :: ks, _, n, x, hn, v, hv => by
    simp only [NestedKey.depthAll] at hn
    cases x with
    | cons x1 x2 =>
      rcases List.mem_cons.mp hv with e | hv
      · rw [e]
        exact noCls k _ n x1 (by omega)
      · exact noClss ks _ n x2 (by omega) v hv
end
/-- whether its hash hangs on its value alone: some answer -/
def ByVal (P : Program) (w : World) (n : Nat) (s : Shared) (v : Value) : Prop := ∀ (A : Around) (E : Value → Shared → Prop) (Q : Bool → Shared → Prop), (∀ b, Q b s) → wpAny (model P w) A (hashByValue n v) Q E s
theorem byVal_tup {n : Nat} {a : Addr} {o : Obj} {vs : Array Value} {m : Nat} (ho : s.heap.get? a = some o) (hc : o.cls = .type "tuple") (hd : o.data = .seq vs m) (each : ∀ v ∈ vs.toList, ByVal P w n s v) : ByVal P w (n + 1) s (.ref a) := fun A E Q q => by
  have isT : s.TypeIs (.ref a) "tuple" := ⟨o, ho, hc⟩
  unfold hashByValue
  refine wpAny_bind (wpAny_specialOf isT F.slot_tuple_hash.lookup ?_)
  show wpAny _ _ (seqItems? (.ref a) >>= _) _ _ s
  refine wpAny_bind (wpAny_seqItems ho hd ?_)
  refine wpAny_bind ?_
  show wpAny _ _ (forIn vs _ _) _ _ s
  rw [← Array.forIn_toList]
  refine wpAny_forIn_list _ (fun left r s1 => s1 = s ∧ r.1 = none ∧ ∀ v ∈ left, ByVal P w n s v) _ (fun v left r s1 z => ?_) (fun r s1 z => ?_) _ _ ⟨rfl, rfl, each⟩
  · obtain ⟨rfl, hr, al⟩ := z
    refine wpAny_bind (al v List.mem_cons_self _ _ _ fun b => ?_)
    cases b with
    | true =>
      simp only [Bool.not_true, Bool.false_eq_true, if_false]
      exact wpAny_pure ⟨rfl, rfl, fun u hu => al u (List.mem_cons_of_mem _ hu)⟩
    | false =>
      simp only [Bool.not_false, if_true]
      refine wpAny_pure ?_
      exact wpAny_pure (q false)
  · obtain ⟨r1, r2⟩ := r
    obtain ⟨rfl, hr, _⟩ := z
    simp only at hr
    subst hr
    exact wpAny_pure (q true)
mutual
theorem byVal : ∀ (k : NestedKey) (v : Value) (n : Nat), NestedIs s.heap k v → k.depth ≤ n → ByVal P w n s v
  | .none, _, n, x, _ => by cases x; exact fun A E Q q => by cases n <;> exact wpAny_pure (q _)
  | .num _, _, n, x, _ => by cases x <;> exact fun A E Q q => by cases n <;> exact wpAny_pure (q _)
  | .text _, _, n, x, _ => by cases x; exact fun A E Q q => by cases n <;> exact wpAny_pure (q _)
  | .tup ks, _, n, x, hn => by
    simp only [NestedKey.depth] at hn
    cases x with
    | tup h1 h2 h3 h4 =>
      match n, hn with
      | n + 1, hn => exact byVal_tup h1 h2 h3 (byVals ks _ n h4 (by omega))
theorem byVals : ∀ (ks : List NestedKey) (vs : List Value) (n : Nat), NestedAll s.heap ks vs → NestedKey.depthAll ks ≤ n → ∀ v ∈ vs, ByVal P w n s v
  | [], _, _, x, _, v, hv => by cases x; cases hv
  | k :: ks, _, n, x, hn, v, hv => by
    simp only [NestedKey.depthAll] at hn
    cases x with
    | cons x1 x2 =>
      rcases List.mem_cons.mp hv with e | hv
      · rw [e]
        exact byVal k _ n x1 (by omega)
      · exact byVals ks _ n x2 (by omega) v hv
end
variable {A : Around} {E : Value → Shared → Prop}
/-- looking for one key among others cannot be seen -/
theorem unseen {k : NestedKey} {b : Addr} (x : At s.heap k b) {ys : List Value} (al : ∀ y ∈ ys, ∃ l c, y = Value.ref c ∧ At s.heap l c) {Q : Bool → Shared → Prop} (q : Q false s) : wpAny (model P w) A (searchCouldBeSeen (.ref b) ys) Q E s := by
  unfold searchCouldBeSeen
  refine wpAny_bind ?_
  refine wpAny_forIn_list _ (fun left r s1 => s1 = s ∧ r.1 = none ∧ ∀ y ∈ left, ∃ l c, y = Value.ref c ∧ At s.heap l c) _ (fun y left r s1 z => ?_) (fun r s1 z => ?_) _ _ ⟨rfl, rfl, al⟩
  · obtain ⟨rfl, hr, more⟩ := z
    obtain ⟨l, c, rfl, y⟩ := more y List.mem_cons_self
    have further : ∀ u ∈ left, ∃ l c, u = Value.ref c ∧ At s1.heap l c := fun u hu => more u (List.mem_cons_of_mem _ hu)
    dsimp only
    by_cases same : (b == c || (carriedByValue (.ref b) && carriedByValue (.ref c))) = true
    · exact wp_if_pos same (wpAny_pure ⟨rfl, rfl, further⟩)
    · refine wp_if_neg same ?_
      refine wpAny_bind ((nestedKind P w).quiet x ?_)
      simp only [Bool.not_true, Bool.false_eq_true, if_false]
      refine wpAny_bind ((nestedKind P w).quiet y ?_)
      simp only [Bool.not_true, Bool.false_eq_true, if_false]
      refine wpAny_bind (noCls k _ 8 x.1 x.2 _ _ _ ?_)
      simp only [Bool.false_eq_true, if_false]
      refine wpAny_bind (noCls l _ 8 y.1 y.2 _ _ _ ?_)
      simp only [Bool.false_eq_true, if_false]
      exact wpAny_pure ⟨rfl, rfl, further⟩
  · obtain ⟨r1, r2⟩ := r
    obtain ⟨rfl, hr, _⟩ := z
    simp only at hr
    subst hr
    exact wpAny_pure q
end
end NS

/-! ## N2 -/
set_option maxRecDepth 100000
set_option maxHeartbeats 2000000
/-! N2: a set of keys of any depth: one is looked for, one is put in -/
namespace NS
open PySem PySem.Spec PyProof.Rows L2
abbrev Row : Type := Addr × NestedKey
abbrev hs (w : World) (M : List Row) : List Int := M.map fun m => m.2.hash w
abbrev inners (w : World) (M : List Row) : List (Int × Value) := M.map fun m => (m.2.hash w, Value.ref m.1)
/-- at a stands a set of these keys, in the order of its table -/
structure Holds (w : World) (h : Heap) (a : Addr) (M : List Row) (rs : Array (Int × Value)) (n : Nat) (t : SetTable) : Prop where
  obj : ∃ o, h.get? a = some o ∧ o.ExactSet ∧ o.data = .set rs n t
  is : rs.toList = inners w M
  tab : TabOk t (hs w M)
  nd : (M.map (·.2)).Nodup
  led : w.params.followText "set-order" = true ∨ t.led = true
  room : M.length * 5 < t.mask * 3
  few : M.length < 64
abbrev Keys (h : Heap) (M : List Row) : Prop := ∀ m ∈ M, At h m.2 m.1
theorem Keys.grow {h h' : Heap} {M : List Row} (x : Keys h M) (g : ∀ c o, h.get? c = some o → h'.get? c = some o) : Keys h' M := fun m hm => (x m hm).grow g
section
variable {P : Program} {w : World} {A : Around} {E : Value → Shared → Prop} {s : Shared} {a : Addr} {M : List Row} {rs : Array (Int × Value)} {n : Nat} {t : SetTable}
theorem size_of {rs : Array (Int × Value)} {M : List Row} (e : rs.toList = inners w M) : rs.size = M.length := by
  rw [← Array.length_toList, e, List.length_map]
theorem fits_of (e : rs.size = M.length) (T : TabOk t (hs w M)) (r : M.length ≤ t.mask) : t.fits rs.size = true := by
  have z := T.sz
  rw [List.length_map] at z
  unfold SetTable.fits SetTable.fill
  rw [T.dm, Bool.and_eq_true, beq_iff_eq, decide_eq_true_eq, e, ← z]
  exact ⟨rfl, by show t.place.size + 0 ≤ t.mask; omega⟩
theorem Holds.fits {h : Heap} (S : Holds w h a M rs n t) : t.fits rs.size = true := fits_of (size_of S.is) S.tab (by have := S.room; omega)
theorem at_of (e : rs.toList = inners w M) {i : Nat} {m : Row} (hm : M[i]? = some m) : rs[i]? = some (m.2.hash w, Value.ref m.1) := by
  have z : (inners w M)[i]? = some (m.2.hash w, Value.ref m.1) := by rw [List.getElem?_map, hm] <;> rfl
  rw [← e, Array.getElem?_toList] at z
  exact z
/-- the c-th state of a search for the hash g -/
abbrev stand (t : SetTable) (g : Int) (c : Nat) : SetTable.Probe := nth t.mask (runAt t.mask (SetTable.bits g % (t.mask + 1)) (SetTable.bits g)) c
theorem stand_add (t : SetTable) (g : Int) (c q : Nat) : nth t.mask (stand t g c) q = stand t g (c + q) := (nth_add t.mask c _ q).symm
theorem no_dummy (m : Nat) : ∀ (c : Nat) (p : SetTable.Probe), p.dummy = none → (nth m p c).dummy = none
  | 0, _, h => h
  | c + 1, p, h => no_dummy m c (adv m p) (by unfold adv; split <;> exact h)
/-- the keys that are sought stand further on -/
def Ahead (t : SetTable) (w : World) (M : List Row) (k : NestedKey) (c L : Nat) : Prop := ∀ (i : Nat) (m : Row), M[i]? = some m → m.2 = k → ∃ d, c ≤ d ∧ d < L ∧ t.place.toList[i]? = some (way t.mask (k.hash w) d)
theorem seek (S : Holds w s.heap a M rs n t) (kx : Keys s.heap M) {k : NestedKey} {b : Addr} (x : At s.heap k b) (hu : A.units + 8 < cLine) {L : Nat} (short : L < 10 * SetTable.turns t.mask)
    (free : way t.mask (k.hash w) L ∉ t.place.toList) (busy : ∀ d, d < L → way t.mask (k.hash w) d ∈ t.place.toList) {Q : SetFound → Shared → Prop} (yes : k ∈ M.map (·.2) → Q (.there none) s)
    (no : k ∉ M.map (·.2) → Q (.free (way t.mask (k.hash w) L) false) s) :
    ∀ (f c : Nat) (from' : Option SetTable.Probe), from'.getD (t.probeStart (k.hash w)) = stand t (k.hash w) c → c ≤ L → L - c < f → Ahead t w M k c L → wpAny (model P w) A (setSearchFrom a (.ref b) (k.hash w) true f from') Q E s := by
  obtain ⟨o, ho, hex, hd⟩ := S.obj
  have sz : t.place.toList.length = M.length := by
    have z := S.tab.sz
    rw [List.length_map] at z
    exact z
  have key : ∀ i, i < M.length → (rs[i]?.map (·.1)).getD 0 = ((M[i]?.map fun m => m.2.hash w).getD 0) := fun i hi => by
    rw [at_of S.is (List.getElem?_eq_getElem hi), List.getElem?_eq_getElem hi] <;> rfl
  intro f
  induction f with
  | zero => intro c _ _ _ z; exact absurd z (Nat.not_lt_zero _)
  | succ f ih =>
    intro c from' hst hc hf ahead
    rw [setSearchFrom_succ]
    refine wpAny_bind (wpAny_setState_of ho hd S.fits ?_)
    dsimp only
    refine wp_if_neg (by unfold SetTable.gaveWay; rw [mask_odd S.tab.mok]; decide) ?_
    try refine wpAny_bind (wpAny_pure ?_)
    rw [hst]
    have spec := go_spec t S.tab.ris S.tab.dm (fun i => (rs[i]?.map (·.1)).getD 0) (k.hash w) (10 * SetTable.turns t.mask) (L - c) (stand t (k.hash w) c) (no_dummy _ c _ rfl) (by omega)
      (fun q hq => by rw [stand_add]; exact busy (c + q) (by omega)) (by rw [stand_add, show c + (L - c) = L by omega]; exact free)
    rcases spec with ⟨q, i, hq, hi, hh, earlier, found⟩ | ⟨nowhere, found⟩
    · rw [stand_add] at hi
      have hil : i < M.length := by rw [← sz]; exact (List.getElem?_eq_some_iff.mp hi).1
      obtain ⟨m, hm⟩ : ∃ m, M[i]? = some m := ⟨_, List.getElem?_eq_getElem hil⟩
      have mM : m ∈ M := List.mem_of_getElem? hm
      have live : t.slot (way t.mask (k.hash w) (c + q)) = .live i := slot_live S.tab.ris hi
      rw [stand_add, stand_add] at found
      rw [show t.probe (fun i => (rs[i]?.map (·.1)).getD 0) (k.hash w) (stand t (k.hash w) c) = _ from found]
      dsimp only
      have rest : wpAny (model P w) A (searchRest a (.ref b) (k.hash w) true f rs t (way t.mask (k.hash w) (c + q)) i (stand t (k.hash w) (c + (q + 1)))) Q E s := by
        unfold searchRest
        rw [at_of S.is hm]
        dsimp only
        refine wpAny_bind (wpAny_holding ((nestedKind P w).eqBool hu (kx m mM) x ?_))
        refine wpAny_bind (wpAny_setState_of ho hd S.fits ?_)
        dsimp only
        by_cases same : m.2 = k
        · exact wp_if_pos (by simp [same]) (wpAny_pure (yes (List.mem_map.mpr ⟨m, mM, same⟩)))
        · refine wp_if_neg (by simp [same]) ?_
          try refine wpAny_bind (wpAny_pure ?_)
          rw [sameMem]
          dsimp only
          simp only [if_true, live, at_of S.is hm]
          refine wpAny_bind (wpAny_isSame_ref_self (wpAny_bind (wpAny_pure ?_)))
          simp only [if_true]
          refine wp_if_neg (by simp [same]) (ih (c + (q + 1)) _ rfl (by omega) (by omega) fun j m' hj ej => ?_)
          obtain ⟨d, d1, d2, d3⟩ := ahead j m' hj ej
          refine ⟨d, ?_, d2, d3⟩
          have hjl : j < M.length := (List.getElem?_eq_some_iff.mp hj).1
          rcases Nat.lt_trichotomy d (c + q) with z | z | z
          · exfalso
            refine earlier (d - c) j (by omega) (by rw [stand_add, show c + (d - c) = d by omega]; exact d3) ?_
            rw [key j hjl, hj]
            show m'.2.hash w = k.hash w
            rw [ej]
          · exfalso
            rw [z] at d3
            have other := slot_live S.tab.ris d3
            rw [live] at other
            injection other with other
            rw [← other, hm] at hj
            cases hj
            exact same ej
          · omega
      by_cases hl : t.led = true
      · refine wp_if_neg (by simp [hl]) ?_
        try refine wpAny_bind (wpAny_pure ?_)
        exact rest
      · refine wp_if_pos (by simp [hl]) (wpAny_bind (unseen x (fun y hy => ?_) ?_))
        · obtain ⟨e, he, ee⟩ := List.mem_map.mp hy
          have he1 : e ∈ rs ∧ e.1 = k.hash w := by simpa using he
          have he2 : e ∈ rs.toList := by simpa using he1.1
          rw [S.is] at he2
          obtain ⟨m', hm', em⟩ := List.mem_map.mp he2
          exact ⟨m'.2, m'.1, by rw [← ee, ← em], kx m' hm'⟩
        · refine wp_if_neg (by decide) ?_
          try refine wpAny_bind (wpAny_pure ?_)
          exact rest
    · rw [stand_add, show c + (L - c) = L by omega] at found
      rw [show t.probe (fun i => (rs[i]?.map (·.1)).getD 0) (k.hash w) (stand t (k.hash w) c) = _ from found]
      dsimp only
      refine wpAny_pure (no fun z => ?_)
      obtain ⟨m, mM, em⟩ := List.mem_map.mp z
      obtain ⟨j, hjl, ej⟩ := List.getElem_of_mem mM
      have hj : M[j]? = some m := by rw [List.getElem?_eq_getElem hjl, ej]
      obtain ⟨d, d1, d2, d3⟩ := ahead j m hj em
      refine nowhere (d - c) j (by omega) (by rw [stand_add, show c + (d - c) = d by omega]; exact d3) ?_
      rw [key j hjl, hj]
      show m.2.hash w = k.hash w
      rw [em]
/-- the search of an adding -/
theorem seek_all (S : Holds w s.heap a M rs n t) (kx : Keys s.heap M) {k : NestedKey} {b : Addr} (x : At s.heap k b) (hu : A.units + 8 < cLine) {Q : SetFound → Shared → Prop} (yes : k ∈ M.map (·.2) → Q (.there none) s)
    (no : ∀ L, k ∉ M.map (·.2) → way t.mask (k.hash w) L ∉ t.place.toList → (∀ d, d < L → way t.mask (k.hash w) d ∈ t.place.toList) → Q (.free (way t.mask (k.hash w) L) false) s) :
    wpAny (model P w) A (setSearch a (.ref b) (k.hash w) true) Q E s := by
  have few := S.room
  obtain ⟨L, l1, l2, l3⟩ := S.tab.first (by rw [List.length_map]; omega) (k.hash w)
  have small : L < 2000 := by
    unfold SetTable.turns at l1
    rcases S.tab.mok with e | e | e <;> omega
  unfold setSearch
  refine seek S kx x hu l1 l2 l3 yes (fun z => no L z l2 l3) 100000 0 none rfl (Nat.zero_le _) (by omega) fun i m hm e => ?_
  have hh : (hs w M)[i]? = some (k.hash w) := by rw [List.getElem?_map, hm, ← e] <;> rfl
  have z := S.tab.sz
  rw [List.length_map] at z
  have hil : i < t.place.toList.length := by
    rw [Array.length_toList, z]
    exact (List.getElem?_eq_some_iff.mp hm).1
  obtain ⟨d, d1, d2⟩ := S.tab.before l2 hh (List.getElem?_eq_getElem hil)
  exact ⟨d, Nat.zero_le _, d1, by rw [List.getElem?_eq_getElem hil, d2]⟩
end
end NS

/-! ## N3 -/
set_option maxRecDepth 100000
set_option maxHeartbeats 2000000
/-! N3: the table laid anew; one key put in -/
namespace NS
open PySem PySem.Spec PyProof.Rows L2
/-! ### lists read in another order -/
theorem pick_map {α β : Type} (f : α → β) (l : List α) : ∀ js : List Nat, (js.filterMap fun j => (l.map f)[j]?) = (js.filterMap fun j => l[j]?).map f
  | [] => rfl
  | j :: js => by
    have ih := pick_map f l js
    cases e : l[j]? with
    | none =>
      rw [List.filterMap_cons_none (by rw [List.getElem?_map, e] <;> rfl), List.filterMap_cons_none e, ih]
    | some x =>
      rw [List.filterMap_cons_some (b := f x) (by rw [List.getElem?_map, e] <;> rfl), List.filterMap_cons_some e, List.map_cons, ih]
theorem pick_all {α : Type} : ∀ l : List α, ((List.range l.length).filterMap fun j => l[j]?) = l := by
  intro l
  have up : ∀ m, m ≤ l.length → ((List.range m).filterMap fun j => l[j]?) = l.take m := by
    intro m
    induction m with
    | zero => intro _; rfl
    | succ m ih =>
      intro hm
      have hl := List.getElem?_eq_getElem (l := l) hm
      rw [List.range_succ, List.filterMap_append, ih (Nat.le_of_succ_le hm), List.take_succ, List.filterMap_cons_some hl, hl] <;> rfl
  rw [up _ (Nat.le_refl _), List.take_length]
theorem pick_perm {α : Type} {l : List α} {js : List Nat} (p : js.Perm (List.range l.length)) : (js.filterMap fun j => l[j]?).Perm l := by
  have z := p.filterMap fun j => l[j]?
  rw [pick_all] at z
  exact z
theorem pick_getD {α : Type} (d : α) (l : List α) : ∀ js : List Nat, (∀ j ∈ js, j < l.length) → (js.filterMap fun j => l[j]?) = js.map fun j => l.getD j d
  | [], _ => rfl
  | j :: js, h => by
    have hj := List.getElem?_eq_getElem (l := l) (h j List.mem_cons_self)
    rw [List.filterMap_cons_some hj, List.map_cons, pick_getD d l js fun i hi => h i (List.mem_cons_of_mem _ hi), List.getD_eq_getElem?_getD, hj] <;> rfl
section
variable {P : Program} {w : World} {A : Around} {E : Value → Shared → Prop} {s : Shared} {a : Addr} {M : List Row} {rs : Array (Int × Value)} {n : Nat} {t : SetTable}
theorem keep_tab {g : List Int} (T : TabOk t g) (b : Bool) : TabOk { t with plain := b } g := ⟨T.ris, T.dm, T.sz, T.mok, T.bd, T.reach⟩
theorem again_laid {o : Obj} (ho : s.heap.get? a = some o) (hex : o.ExactSet) (hd : o.data = .set rs n t) (is : rs.toList = inners w M) (T : TabOk t (hs w M)) (fit : M.length ≤ t.mask) (nd : (M.map (·.2)).Nodup)
    (ld : w.params.followText "set-order" = true ∨ t.led = true) (few : M.length < 64) {wanted m : Nat} (e1 : SetTable.sizeAbove wanted - 1 = m) (e2 : MaskOk m) (e3 : SetTable.sizeAbove wanted ≤ 128) (room : M.length * 5 < m * 3) {Q : Unit → Shared → Prop}
    (q : ∀ h' M' rs' n' t', Heap.SameBut a s.heap h' → Holds w h' a M' rs' n' t' → M'.Perm M → Q () { s with heap := h' }) : wpAny (model P w) A (setRelay a wanted) Q E s := by
  have sz := size_of is
  have msz : (rs.map (·.1)).size = M.length := by rw [Array.size_map, sz]
  obtain ⟨t', order, r1, r2, r3, r4, r5, r6, r7⟩ := relaid_ok t (hs := rs.map (·.1)) (wanted := wanted) e1 e2 (by rw [msz]; omega)
  rw [msz] at r2
  have small : ∀ j ∈ order.toList, j < M.length := fun j hj => List.mem_range.mp (r2.mem_iff.mp hj)
  -- the rows in their new order
  have new : (order.filterMap (rs[·]?)).toList = inners w (order.toList.filterMap fun j => M[j]?) := by
    have z : (order.filterMap (rs[·]?)).toList = order.toList.filterMap fun j => rs[j]? := by first | exact Array.toList_filterMap | simp
    rw [z]
    have z2 : (order.toList.filterMap fun j => rs[j]?) = order.toList.filterMap fun j => (inners w M)[j]? := by
      congr 1
      funext j
      rw [← is, Array.getElem?_toList]
    rw [z2]
    exact pick_map _ M _
  have pm : (order.toList.filterMap fun j => M[j]?).Perm M := pick_perm r2
  have hh : (order.toList.map fun j => (rs.map (·.1)).getD j 0) = hs w (order.toList.filterMap fun j => M[j]?) := by
    have z : (rs.map (·.1)).toList = hs w M := by
      rw [Array.toList_map, is, List.map_map] <;> rfl
    have z2 : (order.toList.map fun j => (rs.map (·.1)).getD j 0) = order.toList.map fun j => (hs w M).getD j 0 := by
      congr 1
      funext j
      rw [← z]
      simp [Array.getD_eq_getD_getElem?, List.getD_eq_getElem?_getD]
    rw [z2, ← pick_getD 0 (hs w M) order.toList fun j hj => by rw [List.length_map]; exact small j hj]
    exact pick_map _ M _
  rw [hh] at r3
  generalize (order.toList.filterMap fun j => M[j]?) = M' at new pm r3
  have len := pm.length_eq
  have sz2 : (order.filterMap (rs[·]?)).size = rs.size := by rw [size_of new, len, sz]
  rw [setRelay_eq]
  refine wpAny_bind (wpAny_setState_of ho hd (fits_of sz T fit) ?_)
  dsimp only
  refine wp_if_neg (by rw [sizeLine_eq]; omega) ?_
  try refine wpAny_bind (wpAny_pure ?_)
  rw [r1]
  dsimp only
  refine wpAny_bind ?_
  refine wp_if_neg (by rw [sz2]; simp) ?_
  try refine wpAny_bind (wpAny_pure ?_)
  refine wpAny_pure ?_
  dsimp only
  refine wpAny_storeSet_of ho hd ?_ (by rw [sz2, sz, sizeLine_eq]; omega)
  refine q _ M' (order.filterMap (rs[·]?)) (n + 1) t' (Heap.SameBut.update ..) ⟨⟨_, store_at ho hd, hex, rfl⟩, new, r3, (pm.map (·.2)).nodup_iff.mpr nd, ?_, by rw [len, r4]; exact room, by rw [len]; exact few⟩ pm
  rw [r5]
  exact ld
/-- one more -/
theorem put_in (S : Holds w s.heap a M rs n t) (kx : Keys s.heap M) {k : NestedKey} {b : Addr} (x : At s.heap k b) (hu : A.units + 8 < cLine) (few : M.length + 1 < 64) {Q : Bool → Shared → Prop}
    (q : ∀ r h' M' rs' n' t', Heap.SameBut a s.heap h' → Holds w h' a M' rs' n' t' → (k ∈ M.map (·.2) → M' = M) → (k ∉ M.map (·.2) → M'.Perm ((b, k) :: M)) → Q r { s with heap := h' }) :
    wpAny (model P w) A (setAddHashed a (.ref b) (k.hash w)) Q E s := by
  obtain ⟨o, ho, hex, hd⟩ := S.obj
  have sz := size_of S.is
  have room := S.room
  unfold setAddHashed
  refine wpAny_holding ?_
  rw [show (100000 : Nat) = 99999 + 1 from rfl, setAddHashedIn_succ]
  refine wpAny_bind (wpAny_setState_of ho hd S.fits ?_)
  dsimp only
  refine wp_if_neg (by simp [byScan, Value.scannable]) ?_
  try refine wpAny_bind (wpAny_pure ?_)
  refine wpAny_bind (seek_all S kx x hu (fun z => ?_) fun L z l2 l3 => ?_)
  · dsimp only
    exact wpAny_pure (q false s.heap M rs n t (Heap.SameBut.refl a s.heap) S (fun _ => rfl) fun y => absurd z y)
  dsimp only
  refine wpAny_bind (wpAny_setState_of ho hd S.fits ?_)
  dsimp only
  obtain ⟨p1, p2, p3, p4, p5, _, _, _, p9⟩ := S.tab.put l2 l3
  generalize SetTable.below t.place (way t.mask (k.hash w) L) = j at p1 p2 p3
  generalize t.put (way t.mask (k.hash w) L) = pt at p1 p3 p4 p5 p9 ⊢
  obtain ⟨t1, j1⟩ := pt
  dsimp only at p1 p3 p4 p5 p9 ⊢
  subst p1
  rw [List.length_map] at p2 p9
  -- the rows with the new one
  have pm : (M.take j1 ++ (b, k) :: M.drop j1).Perm ((b, k) :: M) := put_perm M j1 (b, k)
  have is1 : (SetTable.insertAt rs j1 (k.hash w, Value.ref b)).toList = inners w (M.take j1 ++ (b, k) :: M.drop j1) := by
    rw [SetTable.toList_insertAt, S.is]
    simp only [List.map_append, List.map_cons, List.map_take, List.map_drop]
  have T1 : TabOk t1 (hs w (M.take j1 ++ (b, k) :: M.drop j1)) := by
    have e : hs w (M.take j1 ++ (b, k) :: M.drop j1) = (hs w M).take j1 ++ k.hash w :: (hs w M).drop j1 := by simp only [List.map_append, List.map_cons, List.map_take, List.map_drop]
    rw [e]
    exact p3
  have nd1 : ((M.take j1 ++ (b, k) :: M.drop j1).map (·.2)).Nodup := (pm.map (·.2)).nodup_iff.mpr (List.nodup_cons.mpr ⟨z, S.nd⟩)
  have len1 : (M.take j1 ++ (b, k) :: M.drop j1).length = M.length + 1 := pm.length_eq
  generalize SetTable.insertAt rs j1 (k.hash w, Value.ref b) = rs1 at is1 ⊢
  generalize M.take j1 ++ (b, k) :: M.drop j1 = M1 at pm is1 T1 nd1 len1
  have sz1 : rs1.size = M.length + 1 := (size_of is1).trans len1
  -- whatever is said of its hash
  have go : ∀ (r : Bool) (t2 : SetTable), (t2 = t1 ∨ t2 = { t1 with plain := false }) → wpAny (model P w) A (do
      storeSet a rs1 t2
      if (!false && t2.tooFull) = true then do
          setRelay a (SetTable.grown (rs.size + 1))
          pure true
        else pure true) Q E s := by
    intro r t2 ht2
    have T2 : TabOk t2 (hs w M1) := by
      rcases ht2 with e | e <;> subst e
      · exact T1
      · exact keep_tab T1 false
    have f2 : t2.fill = M.length + 1 := by rcases ht2 with e | e <;> subst e <;> exact p9
    have m2 : t2.mask = t.mask := by rcases ht2 with e | e <;> subst e <;> exact p4
    have ld2 : w.params.followText "set-order" = true ∨ t2.led = true := by
      have z2 : t2.led = t.led := by rcases ht2 with e | e <;> subst e <;> exact p5
      rw [z2]
      exact S.led
    refine wpAny_bind (wpAny_storeSet_of ho hd ?_ (by rw [sz1, sizeLine_eq]; omega))
    have sb : Heap.SameBut a s.heap (s.heap.update a (Obj.putSet rs1 t2)) := Heap.SameBut.update ..
    have ho1 := store_at (es' := rs1) (t' := t2) ho hd
    generalize s.heap.update a (Obj.putSet rs1 t2) = h1 at sb ho1 ⊢
    by_cases full : t2.tooFull = true
    · refine wp_if_pos (by simp [full]) ?_
      rw [sz]
      have much : (M.length + 1) * 5 ≥ t.mask * 3 := by
        have z3 := full
        unfold SetTable.tooFull at z3
        rw [decide_eq_true_eq, f2, m2] at z3
        exact z3
      have step : ∀ m, SetTable.sizeAbove (SetTable.grown (M.length + 1)) - 1 = m → MaskOk m → SetTable.sizeAbove (SetTable.grown (M.length + 1)) ≤ 128 → (M.length + 1) * 5 < m * 3 → M.length + 1 ≤ t.mask →
          wpAny (model P w) A (do
            setRelay a (SetTable.grown (M.length + 1))
            pure true) Q E { s with heap := h1 } := fun m c1 c2 c3 c4 c5 => by
        refine wpAny_bind (again_laid (s := { s with heap := h1 }) ho1 hex rfl is1 T2 (by rw [len1, m2]; exact c5) nd1 ld2 (by rw [len1]; exact few) c1 c2 c3 (by rw [len1]; exact c4) fun h2 M2 rs2 n2 t3 sb2 S2 pm2 => ?_)
        exact wpAny_pure (q true h2 M2 rs2 n2 t3 (sb.trans sb2) S2 (fun y => absurd y z) fun _ => pm2.trans pm)
      rcases S.tab.mok with e | e | e
      · have el : M.length = 4 := by rw [e] at much room; omega
        exact step 31 (by rw [el, size_20]) (.inr (.inl rfl)) (by rw [el, size_20]; decide) (by omega) (by omega)
      · have el : M.length = 18 := by rw [e] at much room; omega
        exact step 127 (by rw [el, size_76]) (.inr (.inr rfl)) (by rw [el, size_76]; decide) (by omega) (by omega)
      · exfalso
        rw [e] at much
        omega
    · refine wp_if_neg (by simp [full]) ?_
      refine wpAny_pure (q true h1 M1 rs1 (n + 1) t2 sb ⟨⟨_, ho1, hex, rfl⟩, is1, T2, nd1, ld2, ?_, by rw [len1]; exact few⟩ (fun y => absurd y z) fun _ => pm)
      have z3 := full
      unfold SetTable.tooFull at z3
      rw [decide_eq_true_eq, f2] at z3
      rw [len1]
      omega
  by_cases pl : t1.plain = true
  · first
      | refine wp_if_pos pl (wpAny_bind (byVal k _ 8 x.1 x.2 _ _ _ fun r => ?_))
      | (refine wpAny_bind ?_; refine wp_if_pos pl ?_; refine byVal k _ 8 x.1 x.2 _ _ _ fun r => ?_)
    cases r with
    | true => exact go true t1 (.inl rfl)
    | false => exact go false _ (.inr rfl)
  · first
      | refine wp_if_neg pl (wpAny_bind (wpAny_pure ?_))
      | (refine wpAny_bind ?_; refine wp_if_neg pl ?_; refine wpAny_pure ?_)
    exact go true t1 (.inl rfl)
end
end NS

/-! ## N4 -/
set_option maxRecDepth 100000
set_option maxHeartbeats 3200000
/-! N4: set(xs) of a list of keys -/
namespace NS
open PySem PySem.Spec PyProof.Rows L2
/-- a set just made -/
abbrev bare (w : World) : Obj := { cls := .type "set", dict := none, data := .set #[] 0 (.fresh 0 0 (!w.params.followText "set-order")) }
theorem holds_bare {w : World} {h : Heap} {a : Addr} (ho : h.get? a = some (bare w)) : Holds w h a [] #[] 0 (.fresh 0 0 (!w.params.followText "set-order")) := by
  refine ⟨⟨_, ho, ⟨rfl, rfl, rfl⟩, rfl⟩, rfl, ⟨.nil, rfl, rfl, .inl rfl, fun j hj => (by cases hj), fun i g j hi => (by simp at hi)⟩, .nil, ?_, by show 0 * 5 < 7 * 3; decide, by show 0 < 64; decide⟩
  cases z : w.params.followText "set-order" with
  | true => exact .inl rfl
  | false => exact .inr rfl
theorem Holds.grow {w : World} {h h' : Heap} {a : Addr} {M : List Row} {rs : Array (Int × Value)} {n : Nat} {t : SetTable} (S : Holds w h a M rs n t) (g : ∀ o, h.get? a = some o → h'.get? a = some o) : Holds w h' a M rs n t := by
  obtain ⟨o, ho, r⟩ := S.obj
  exact ⟨⟨o, g o ho, r⟩, S.is, S.tab, S.nd, S.led, S.room, S.few⟩
/-- what a set has of the first i rows of a list -/
structure Took (N : List Row) (i : Nat) (M : List Row) : Prop where
  sub : ∀ m ∈ M, m ∈ N
  all : ∀ m ∈ N.take i, m.2 ∈ M.map (·.2)
  few : M.length ≤ i
theorem Took.none (N : List Row) : Took N 0 [] := ⟨fun m z => (by cases z), fun m z => (by simp at z), Nat.le_refl _⟩
theorem Took.more {N M M' : List Row} {i : Nat} {m : Row} (T : Took N i M) (hm : N[i]? = some m) (c1 : m.2 ∈ M.map (·.2) → M' = M) (c2 : m.2 ∉ M.map (·.2) → M'.Perm (m :: M)) : Took N (i + 1) M' := by
  have tk : N.take (i + 1) = N.take i ++ [m] := by rw [List.take_succ, hm] <;> rfl
  by_cases z : m.2 ∈ M.map (·.2)
  · rw [c1 z]
    refine ⟨T.sub, fun u hu => ?_, Nat.le_succ_of_le T.few⟩
    rw [tk] at hu
    rcases List.mem_append.mp hu with e | e
    · exact T.all u e
    · rw [List.mem_singleton.mp e]
      exact z
  · have pm := c2 z
    refine ⟨fun u hu => ?_, fun u hu => ?_, by rw [pm.length_eq, List.length_cons]; exact Nat.succ_le_succ T.few⟩
    · rcases List.mem_cons.mp (pm.mem_iff.mp hu) with e | e
      · rw [e]
        exact List.mem_of_getElem? hm
      · exact T.sub u e
    · refine (pm.map (·.2)).mem_iff.mpr ?_
      rw [tk] at hu
      rcases List.mem_append.mp hu with e | e
      · exact List.mem_cons_of_mem _ (T.all u e)
      · rw [List.mem_singleton.mp e]
        exact List.mem_cons_self
section
variable {P : Program} {w : World} {A : Around} {E : Value → Shared → Prop} {s : Shared}
/-- the loop of an update: h0 the heap in which the keys stand -/
theorem loop_puts {I : Addr} {fp wr : List Addr} {G : Array GenState → Array GenState → Prop} {n : Nat} {Pv : Nat → Value → Prop} {St : Nat → Shared → Prop} {R : Result → Shared → Prop} (W : WalksS P w A.in1 I fp wr G n Pv St) {a : Addr} (off : a ∉ fp)
    {N : List Row} (hn : n = N.length) (few : N.length < 64) (val : ∀ i v, Pv i v → ∃ m, N[i]? = some m ∧ v = .ref m.1) {h0 : Heap} (kn : Keys h0 N) (new : h0.get? a = none) (new2 : ∀ b ∈ wr, h0.get? b = none) (hu : A.in1.units + 8 < cLine) :
    ∀ (left i : Nat) (s : Shared), n - i = left → i ≤ n → St i s → (∀ b o, h0.get? b = some o → s.heap.get? b = some o) → (∃ M rs c t, Holds w s.heap a M rs c t ∧ Took N i M) →
      (∀ s' M rs c t, Moved (a :: wr) G s s' → Holds w s'.heap a M rs c t → Took N n M → (∀ b o, h0.get? b = some o → s'.heap.get? b = some o) → R (.ok (.ret .none)) s') →
      codeAny (model P w) A (.builtin "set.update.loop" ⟨[.ref a, .ref I], []⟩) R s := by
  have off2 : a ∉ wr := fun z => off (W.sub _ z)
  have wider : ∀ b ∈ wr, b ∈ a :: wr := fun b z => List.mem_cons_of_mem _ z
  have old : ∀ {s1 s2 : Shared}, Moved wr G s1 s2 → (∀ b o, h0.get? b = some o → s1.heap.get? b = some o) → ∀ b o, h0.get? b = some o → s2.heap.get? b = some o := fun mv g b o e =>
    mv.heap b o (fun z => by rw [new2 b z] at e; cases e) (g b o e)
  intro left
  induction left with
  | zero =>
    rintro i s e le st g ⟨M, rs, c, t, S, T⟩ fin
    obtain rfl : i = n := by omega
    refine codeAny_builtin F.entry_set_update_loop ?_
    rw [Around.under_plainId F.plain_set_update_loop _]
    show wpAny _ A.in1 (pyNext (.ref I) >>= _) _ _ s
    refine wpAny_bind (W.done s _ _ st fun s' mv => ?_)
    show wpAny _ A.in1 (ret Value.none) _ _ s'
    exact wpAny_pure (fin s' M rs c t (mv.mono wider) (S.grow fun o z => mv.heap a o off2 z) T (old mv g))
  | succ left ih =>
    rintro i s e le st g ⟨M, rs, c, t, S, T⟩ fin
    have lt : i < n := by omega
    refine codeAny_builtin F.entry_set_update_loop ?_
    rw [Around.under_plainId F.plain_set_update_loop _]
    show wpAny _ A.in1 (pyNext (.ref I) >>= _) _ _ s
    refine wpAny_bind (W.item i s _ _ lt st fun v s' pv st' mv => ?_)
    obtain ⟨m, hm, rfl⟩ := val i v pv
    have g' := old mv g
    have S' : Holds w s'.heap a M rs c t := S.grow fun o z => mv.heap a o off2 z
    have x : At s'.heap m.2 m.1 := (kn m (List.mem_of_getElem? hm)).grow g'
    show wpAny _ A.in1 (holding [Value.ref m.1] (setAdd a (.ref m.1)) >>= _) _ _ s'
    refine wpAny_bind (wpAny_holding ?_)
    unfold setAdd
    refine wpAny_holding (wpAny_bind ((nestedKind P w).pyHash hu x ?_))
    refine put_in (s := { s' with toks := s'.toks + m.2.draws }) S' (fun u hu' => (kn u (T.sub u hu')).grow g') x hu (by have := T.few; omega) fun r h' M' rs' c' t' sb S2 c1 c2 => ?_
    have g2 : ∀ b o, h0.get? b = some o → h'.get? b = some o := fun b o z => (sb.2 b (fun q => by rw [q, new] at z; cases z)).trans (g' b o z)
    refine wpAny_pure ⟨plainId_quiet F.plain_set_update_loop _, ih (i + 1) _ (by omega) lt (W.frame _ s' _ _ st' (Nat.le_add_right _ _) fun b hb o z => ?_) g2 ⟨M', rs', c', t', S2, T.more hm c1 c2⟩ fun s'' M2 rs2 c3 t2 mv2 S3 T3 g3 => ?_⟩
    · exact (sb.2 b (fun q : b = a => off (q ▸ hb))).trans z
    · refine fin s'' M2 rs2 c3 t2 (Moved.trans W.gtrans ((mv.mono wider).then_heap (Nat.le_add_right _ _) fun b o hb z => ?_) mv2) S3 T3 g3
      exact (sb.2 b (fun q : b = a => hb (q ▸ List.mem_cons_self))).trans z
/-- set(xs): what is left is the loop over a fresh set and a fresh iterator -/
theorem set_of_list {l : Addr} {items : Array Value} {Q : Value → Shared → Prop} {Post : Heap → Nat → Prop} (hl : s.heap.IsList l items)
    (loop : ∀ R : Result → Shared → Prop, (∀ h' tk, Post h' tk → R (.ok (.ret .none)) { s with heap := h', toks := tk }) →
      codeAny (model P w) A.in1.in1 (.builtin "set.update.loop" ⟨[.ref s.heap.objs.size, .ref (s.heap.objs.size + 1)], []⟩) R { s with heap := (s.heap.push (bare w)).push { cls := .type "list_iterator", data := .fields #[.ref l, .int 0 0] } })
    (h : ∀ h' tk, Post h' tk → Q (.ref s.heap.objs.size) { s with heap := h', toks := tk }) : wpAny (model P w) A (call (.type "set") [.ref l]) Q E s := by
  obtain ⟨c, tl, hmro⟩ := F.called_set.mro
  have hmade := F.called_set.made
  have hsub := F.called_set.sub
  refine wpAny_call (codeAny_of_tree ?_)
  show wpAny _ _ (callAny (.type "set") _) _ _ _
  refine wpAny_pure ⟨Code.quiet_builtin _ (by decide +kernel), codeAny_builtin F.entry_type_call ?_⟩
  rw [Around.under_plain (weight_type_call_type "set" [.ref l] []) rfl]
  have h1 := F.called_set.notType
  have h2 := F.called_set.canCreate
  have hct := F.typeCall_set_1 (.ref l)
  repeat (any_goals (first | assumption | wp_step))
  refine codeAny_mono (code_set_led1 (.ref l) (E := E) (Q₁ := fun v s1 => v = .ref s.heap.objs.size ∧ s1 = { s with heap := s.heap.push (bare w) }) ⟨rfl, rfl⟩) fun r s1 hr => ?_
  rcases r with e | (_ | _ | _ | v)
  · exact hr
  · exact hr.elim
  · exact hr.elim
  · exact hr.elim
  obtain ⟨rfl, rfl⟩ := hr
  have isS : (s.heap.push (bare w)).get? s.heap.objs.size = some (bare w) := Heap.get?_push_size _ rfl
  have tyS : Shared.TypeIs { s with heap := s.heap.push (bare w) } (.ref s.heap.objs.size) "set" := ⟨_, isS, rfl⟩
  have hli := F.called_set.init.lookup
  have hbi := F.called_set.init.bind (.ref s.heap.objs.size)
  repeat (any_goals (first | assumption | wp_step))
  refine codeAny_mono (codeAny_call_builtin (R := wants (fun v s2 => v = .none ∧ ∃ h' tk, s2 = { s with heap := h', toks := tk } ∧ Post h' tk) E) F.called_set.init.plain F.entry_set_init (check_set_init_1 tyS ?_)) fun r2 s2 hr2 => ?_
  · obtain ⟨⟨lc, ld, lo, ls⟩, hol, hcl, nl, hdl⟩ := hl
    dsimp only at hcl hdl
    subst hcl hdl
    have hol' : (s.heap.push (bare w)).get? l = some { cls := .type "list", dict := ld, data := .seq items nl, slots := ls } := Heap.get?_push_of_some _ hol
    have hl1 : (s.heap.push (bare w)).IsList l items := ⟨_, hol', rfl, nl, rfl⟩
    have hsls := F.sub_list_set
    have hslf := F.sub_list_frozenset
    have hne : (Value.type "list" == Value.type "dict") = false := by decide
    unfold Builtin.«set.__init__» noKeywords Builtin.Frozenset.updateFrom
    generalize hPI : pyIter = PI
    wp_walk
    subst hPI
    refine wpAny_pyIter_list hl1 (wpAny_bind (wpAny_runValue ?_))
    have hz : (s.heap.push (bare w)).objs.size = s.heap.objs.size + 1 := Heap.size_push ..
    show codeAny _ _ (.builtin "set.update.loop" ⟨[.ref s.heap.objs.size, .ref (s.heap.push (bare w)).objs.size], []⟩) _ _
    rw [hz]
    refine loop _ fun h' tk po => ?_
    show wpAny _ _ _ _ _ _
    refine wpAny_pure ?_
    show wpAny _ _ (ret Value.none) _ _ _
    exact wpAny_pure ⟨rfl, h', tk, rfl, po⟩
  · rcases r2 with e | (_ | _ | _ | v)
    · exact hr2
    · exact hr2.elim
    · exact hr2.elim
    · exact hr2.elim
    obtain ⟨rfl, h', tk, rfl, po⟩ := hr2
    repeat (any_goals (first | assumption | wp_step))
    exact h _ _ po
/-- set(xs) of keys -/
theorem set_keys {l : Addr} {items : Array Value} {N : List Row} {Q : Value → Shared → Prop} (hh : A.handled = none) (hl : s.heap.IsList l items) (hit : items.toList = N.map fun m => Value.ref m.1) (kn : Keys s.heap N) (few : N.length < 64) (hu : A.units + 16 < cLine)
    (h : ∀ h' tk M rs c t, Holds w h' s.heap.objs.size M rs c t → Took N N.length M → (∀ b o, s.heap.get? b = some o → h'.get? b = some o) → Q (.ref s.heap.objs.size) { s with heap := h', toks := tk }) : wpAny (model P w) A (call (.type "set") [.ref l]) Q E s := by
  have size : items.size = N.length := by rw [← Array.length_toList, hit, List.length_map]
  have none_at : ∀ b, s.heap.objs.size ≤ b → s.heap.get? b = none := fun b hb => by
    cases q : s.heap.get? b with
    | none => rfl
    | some o => exact absurd (Heap.lt_size q) (Nat.not_lt.mpr hb)
  refine set_of_list (Post := fun h' _ => ∃ M rs c t, Holds w h' s.heap.objs.size M rs c t ∧ Took N N.length M ∧ ∀ b o, s.heap.get? b = some o → h'.get? b = some o) hl (fun R fin => ?_) fun h' tk ⟨M, rs, c, t, S, T, g⟩ => h h' tk M rs c t S T g
  have ll : l < s.heap.objs.size := by
    obtain ⟨o, ho, _⟩ := hl
    exact Heap.lt_size ho
  have hz : (s.heap.push (bare w)).objs.size = s.heap.objs.size + 1 := Heap.size_push ..
  have hl2 : ((s.heap.push (bare w)).push { cls := .type "list_iterator", data := .fields #[.ref l, .int 0 0] }).IsList l items := (hl.push _).push _
  have it : ((s.heap.push (bare w)).push { cls := .type "list_iterator", data := .fields #[.ref l, .int 0 0] }).get? (s.heap.objs.size + 1) = some { cls := .type "list_iterator", data := .fields #[.ref l, .int 0 0] } := by
    rw [← hz]
    exact Heap.get?_push_size _ rfl
  have up : ∀ b o, s.heap.get? b = some o → ((s.heap.push (bare w)).push { cls := .type "list_iterator", data := .fields #[.ref l, .int 0 0] }).get? b = some o := fun b o e => Heap.get?_push_of_some _ (Heap.get?_push_of_some _ e)
  have isS : ((s.heap.push (bare w)).push { cls := .type "list_iterator", data := .fields #[.ref l, .int 0 0] }).get? s.heap.objs.size = some (bare w) := Heap.get?_push_of_some _ (Heap.get?_push_size _ rfl)
  refine loop_puts (h0 := s.heap) ((Walks.list (A := A.in1.in1.in1) (by simp [hh]) (s.heap.objs.size + 1) l (Nat.ne_of_lt (Nat.lt_succ_of_lt ll)) items).toS) (a := s.heap.objs.size) (fun z => by
    rcases List.mem_cons.mp z with e | e
    · exact absurd e (Nat.ne_of_lt (Nat.lt_succ_self _))
    · exact absurd (List.mem_singleton.mp e) (Nat.ne_of_gt ll)) (N := N) size few (fun i v hv => ?_) kn
    (none_at _ (Nat.le_refl _)) (fun b hb => none_at b (by rw [List.mem_singleton.mp hb]; exact Nat.le_succ _)) (by show A.in1.in1.in1.units + 8 < cLine; simp only [Around.in1_units]; omega) (items.size - 0) 0 _ (by omega) (Nat.zero_le _) ⟨⟨_, it, rfl, rfl⟩, hl2⟩ up ⟨[], #[], 0, _, holds_bare isS, Took.none N⟩
    fun s' M rs c t mv S T g => ?_
  · have q : items.toList[i]? = some v := by rw [Array.getElem?_toList]; exact hv
    rw [hit, List.getElem?_map] at q
    obtain ⟨m, hm, e⟩ := Option.map_eq_some_iff.mp q
    exact ⟨m, hm, e.symm⟩
  · obtain ⟨h', g2, d', tk', os'⟩ := s'
    have e1 : g2 = s.gens := mv.gens
    have e2 : d' = s.drawn := mv.drawn
    have e3 : os' = s.os := mv.os
    subst e1 e2 e3
    rw [size] at T
    exact fin h' tk' ⟨M, rs, c, t, S, T, g⟩
end
end NS

/-! ## N5 -/
set_option maxRecDepth 100000
set_option maxHeartbeats 2000000
/-! N5: the order of keys of any depth, and sorting by it -/
namespace NS
open PySem PySem.Spec PyProof.Rows L2
def ltX (x y : Str) : Bool := decide (x.cps.toList < y.cps.toList)
def kindN : NestedKey → Nat
  | .none => 0
  | .num _ => 1
  | .text _ => 2
  | .tup _ => 3
mutual
/-- Python's order where it has one; else by the kind -/
def ltK : NestedKey → NestedKey → Bool
  | .num a, .num b => decide (a < b)
  | .text a, .text b => ltX a b
  | .tup a, .tup b => ltKs a b
  | a, b => decide (kindN a < kindN b)
def ltKs : List NestedKey → List NestedKey → Bool
  | [], [] => false
  | [], _ :: _ => true
  | _ :: _, [] => false
  | a :: as, b :: bs => if NestedKey.beq a b = true then ltKs as bs else ltK a b
end
mutual
/-- Python has an order of the two, and of all that stands in them place by place -/
def okK : NestedKey → NestedKey → Bool
  | .num _, .num _ => true
  | .text _, .text _ => true
  | .tup a, .tup b => okKs a b
  | _, _ => false
def okKs : List NestedKey → List NestedKey → Bool
  | a :: as, b :: bs => (NestedKey.beq a b || okK a b) && okKs as bs
  | _, _ => true
end
/-! ### it is one -/
theorem ltX_irr (x : Str) : ltX x x = false := decide_eq_false (List.lt_irrefl _)
theorem ltX_tr {x y z : Str} (h1 : ltX x y = true) (h2 : ltX y z = true) : ltX x z = true := decide_eq_true (List.lt_trans (of_decide_eq_true h1) (of_decide_eq_true h2))
theorem ltX_asy {x y : Str} (h : ltX x y = true) : ltX y x = false := by
  cases q : ltX y x with
  | false => rfl
  | true =>
    have z := ltX_tr h q
    rw [ltX_irr] at z
    cases z
theorem str_ext {x y : Str} (h : x.cps.toList = y.cps.toList) : x = y := by
  obtain ⟨⟨a⟩⟩ := x
  obtain ⟨⟨b⟩⟩ := y
  have e : a = b := h
  rw [e]
theorem ltX_tot {x y : Str} (h : x ≠ y) : ltX x y = true ∨ ltX y x = true := by
  by_cases c1 : x.cps.toList < y.cps.toList
  · exact .inl (decide_eq_true c1)
  · by_cases c2 : y.cps.toList < x.cps.toList
    · exact .inr (decide_eq_true c2)
    · exact absurd (str_ext (List.le_antisymm (List.not_lt.mp c2) (List.not_lt.mp c1))) h
theorem beq_no {a b : NestedKey} (h : ¬ NestedKey.beq a b = true) : a ≠ b := fun e => h (by rw [e]; exact NestedKey.beq_self b)
theorem beq_symm {a b : NestedKey} : NestedKey.beq a b = true ↔ NestedKey.beq b a = true := ⟨fun h => by rw [NestedKey.eq_of_beq _ _ h]; exact NestedKey.beq_self _, fun h => by rw [NestedKey.eq_of_beq _ _ h]; exact NestedKey.beq_self _⟩
mutual
theorem ltK_asy : ∀ x y : NestedKey, ltK x y = true → ltK y x = false
  | .none, y, h => by cases y <;> simp_all [ltK, kindN]
  | .num a, y, h => by
    cases y with
    | num b => simp only [ltK, decide_eq_true_eq, decide_eq_false_iff_not] at h ⊢; omega
    | _ => simp_all [ltK, kindN]
  | .text a, y, h => by
    cases y with
    | text b => simp only [ltK] at h ⊢; exact ltX_asy h
    | _ => simp_all [ltK, kindN]
  | .tup a, y, h => by
    cases y with
    | tup b => simp only [ltK] at h ⊢; exact ltKs_asy a b h
    | _ => simp_all [ltK, kindN]
theorem ltKs_asy : ∀ x y : List NestedKey, ltKs x y = true → ltKs y x = false
  | [], [], h => by simp [ltKs] at h
  | [], _ :: _, _ => by simp [ltKs]
  | _ :: _, [], h => by simp [ltKs] at h
  | a :: as, b :: bs, h => by
    rw [ltKs] at h ⊢
    by_cases c : NestedKey.beq a b = true
    · rw [if_pos c] at h
      rw [if_pos (beq_symm.mp c)]
      exact ltKs_asy as bs h
    · rw [if_neg c] at h
      rw [if_neg fun z => c (beq_symm.mp z)]
      exact ltK_asy a b h
end
mutual
theorem ltK_tot : ∀ x y : NestedKey, x ≠ y → ltK x y = true ∨ ltK y x = true
  | .none, y, h => by
    cases y with
    | none => exact absurd rfl h
    | _ => simp [ltK, kindN]
  | .num a, y, h => by
    cases y with
    | num b =>
      have z : a ≠ b := fun e => h (by rw [e])
      simp only [ltK, decide_eq_true_eq]
      omega
    | _ => simp [ltK, kindN]
  | .text a, y, h => by
    cases y with
    | text b => simp only [ltK]; exact ltX_tot fun e => h (by rw [e])
    | _ => simp [ltK, kindN]
  | .tup a, y, h => by
    cases y with
    | tup b => simp only [ltK]; exact ltKs_tot a b fun e => h (by rw [e])
    | _ => simp [ltK, kindN]
theorem ltKs_tot : ∀ x y : List NestedKey, x ≠ y → ltKs x y = true ∨ ltKs y x = true
  | [], [], h => absurd rfl h
  | [], _ :: _, _ => .inl (by simp [ltKs])
  | _ :: _, [], _ => .inr (by simp [ltKs])
  | a :: as, b :: bs, h => by
    rw [ltKs, ltKs]
    by_cases c : NestedKey.beq a b = true
    · rw [if_pos c, if_pos (beq_symm.mp c)]
      exact ltKs_tot as bs fun e => h (by rw [e, NestedKey.eq_of_beq _ _ c])
    · rw [if_neg c, if_neg fun z => c (beq_symm.mp z)]
      exact ltK_tot a b (beq_no c)
end
theorem kind_lt {x y : NestedKey} (h : ltK x y = true) : kindN x ≤ kindN y := by
  cases x <;> cases y <;> simp_all [ltK, kindN]
theorem lt_kind {x y : NestedKey} (h : kindN x < kindN y) : ltK x y = true := by
  cases x <;> cases y <;> simp_all [ltK, kindN]
mutual
theorem ltK_tr : ∀ x y z : NestedKey, ltK x y = true → ltK y z = true → ltK x z = true
  | .none, y, z, h1, h2 => by cases y <;> cases z <;> simp_all [ltK, kindN]
  | .num a, y, z, h1, h2 => by
    cases y with
    | num b =>
      cases z with
      | num c => simp only [ltK, decide_eq_true_eq] at h1 h2 ⊢; omega
      | _ => simp_all [ltK, kindN]
    | _ =>
      have k1 := kind_lt h1
      have k2 := kind_lt h2
      first
        | (exfalso; simp_all [ltK, kindN]; done)
        | (refine lt_kind ?_; simp only [kindN] at k1 k2 ⊢; omega)
  | .text a, y, z, h1, h2 => by
    cases y with
    | text b =>
      cases z with
      | text c => simp only [ltK] at h1 h2 ⊢; exact ltX_tr h1 h2
      | _ => simp_all [ltK, kindN]
    | _ =>
      have k1 := kind_lt h1
      have k2 := kind_lt h2
      first
        | (exfalso; simp_all [ltK, kindN]; done)
        | (refine lt_kind ?_; simp only [kindN] at k1 k2 ⊢; omega)
  | .tup a, y, z, h1, h2 => by
    cases y with
    | tup b =>
      cases z with
      | tup c => simp only [ltK] at h1 h2 ⊢; exact ltKs_tr a b c h1 h2
      | _ => simp_all [ltK, kindN]
    | _ => simp_all [ltK, kindN]
theorem ltKs_tr : ∀ x y z : List NestedKey, ltKs x y = true → ltKs y z = true → ltKs x z = true
  | [], [], _, h, _ => by simp [ltKs] at h
  | [], _ :: _, [], _, h => by simp [ltKs] at h
  | [], _ :: _, _ :: _, _, _ => by simp [ltKs]
  | _ :: _, [], _, h, _ => by simp [ltKs] at h
  | _ :: _, _ :: _, [], _, h => by simp [ltKs] at h
  | a :: as, b :: bs, c :: cs, h1, h2 => by
    rw [ltKs] at h1 h2 ⊢
    by_cases c1 : NestedKey.beq a b = true
    · rw [if_pos c1] at h1
      have e := NestedKey.eq_of_beq _ _ c1
      subst e
      by_cases c2 : NestedKey.beq a c = true
      · rw [if_pos c2] at h2 ⊢
        exact ltKs_tr as bs cs h1 h2
      · rw [if_neg c2] at h2 ⊢
        exact h2
    · rw [if_neg c1] at h1
      by_cases c2 : NestedKey.beq b c = true
      · have e := NestedKey.eq_of_beq _ _ c2
        subst e
        rw [if_neg c1]
        exact h1
      · rw [if_neg c2] at h2
        have t := ltK_tr a b c h1 h2
        by_cases c3 : NestedKey.beq a c = true
        · have e := NestedKey.eq_of_beq _ _ c3
          subst e
          rw [ltK_asy a b h1] at h2
          cases h2
        · rw [if_neg c3]
          exact t
end
theorem ltK_irr (x : NestedKey) : ltK x x = false := by
  cases q : ltK x x with
  | false => rfl
  | true =>
    have z := ltK_asy x x q
    rw [q] at z
    cases z
theorem swo_by {α : Type} (f : α → NestedKey) : SrtO.Swo fun x y => ltK (f x) (f y) := by
  refine ⟨fun x y h => ltK_asy _ _ h, fun x y z h1 h2 => ?_⟩
  cases q : ltK (f z) (f x) with
  | false => rfl
  | true =>
    exfalso
    by_cases e1 : f x = f y
    · rw [← e1, q] at h2
      cases h2
    · rcases ltK_tot _ _ e1 with c | c
      · have t := ltK_tr _ _ _ q c
        rw [t] at h2
        cases h2
      · rw [c] at h1
        cases h1
end NS

/-! ## N6 -/
set_option maxRecDepth 100000
set_option maxHeartbeats 2000000
/-! N6: two keys compared by the machine; a list of them sorted -/
namespace NS
open PySem PySem.Spec PyProof.Rows L2
open PySem.SeqAt (EqAt)
mutual
/-- a key without True and False -/
inductive Pure (h : Heap) : NestedKey → Value → Prop
  | none : Pure h .none .none
  | int (i t) : Pure h (.num i) (.int i t)
  | text (x t) : Pure h (.text x) (.str x t)
  | tup {a o vs n ks} : h.get? a = some o → o.cls = .type "tuple" → o.data = .seq vs n → PureAll h ks vs.toList → Pure h (.tup ks) (.ref a)
inductive PureAll (h : Heap) : List NestedKey → List Value → Prop
  | nil : PureAll h [] []
  | cons {k v ks vs} : Pure h k v → PureAll h ks vs → PureAll h (k :: ks) (v :: vs)
end
mutual
theorem Pure.is {h : Heap} : ∀ (k : NestedKey) (v : Value), Pure h k v → NestedIs h k v
  | .none, _, x => by cases x; exact .none
  | .num _, _, x => by cases x; exact .int _ _
  | .text _, _, x => by cases x; exact .text _ _
  | .tup ks, _, x => by
    cases x with
    | tup h1 h2 h3 h4 => exact .tup h1 h2 h3 (PureAll.is ks _ h4)
theorem PureAll.is {h : Heap} : ∀ (ks : List NestedKey) (vs : List Value), PureAll h ks vs → NestedAll h ks vs
  | [], _, x => by cases x; exact .nil
  | k :: ks, _, x => by
    cases x with
    | cons h1 h2 => exact .cons (Pure.is k _ h1) (PureAll.is ks _ h2)
end
mutual
theorem Pure.grow {h h' : Heap} (g : ∀ a o, h.get? a = some o → o.cls = .type "tuple" → h'.get? a = some o) : ∀ (k : NestedKey) (v : Value), Pure h k v → Pure h' k v
  | .none, _, x => by cases x; exact .none
  | .num _, _, x => by cases x; exact .int _ _
  | .text _, _, x => by cases x; exact .text _ _
  | .tup ks, _, x => by
    cases x with
    | tup h1 h2 h3 h4 => exact .tup (g _ _ h1 h2) h2 h3 (PureAll.grow g ks _ h4)
theorem PureAll.grow {h h' : Heap} (g : ∀ a o, h.get? a = some o → o.cls = .type "tuple" → h'.get? a = some o) : ∀ (ks : List NestedKey) (vs : List Value), PureAll h ks vs → PureAll h' ks vs
  | [], _, x => by cases x; exact .nil
  | k :: ks, _, x => by
    cases x with
    | cons h1 h2 => exact .cons (Pure.grow g k _ h1) (PureAll.grow g ks _ h2)
end
theorem PureAll.len {h : Heap} {ks : List NestedKey} {vs : List Value} (x : PureAll h ks vs) : vs.length = ks.length := NestedAll.length _ _ (PureAll.is _ _ x)
theorem lex_is : ∀ (xs ys : List NestedKey) (e r : Nat → Bool) (z : Bool) (i : Nat), (∀ j, e (i + j) = keyEqAt xs ys j) → (∀ j, r (i + j) = ltK (xs.getD j .none) (ys.getD j .none)) → z = decide (xs.length < ys.length) → Ob.lexAt e r z i (min xs.length ys.length) = ltKs xs ys
  | [], [], e, r, z, i, _, _, hz => by rw [hz]; rfl
  | [], _ :: _, e, r, z, i, _, _, hz => by
    rw [hz]
    show decide (0 < _ + 1) = true
    exact decide_eq_true (Nat.succ_pos _)
  | _ :: _, [], e, r, z, i, _, _, hz => by
    rw [hz]
    show decide (_ + 1 < 0) = false
    exact decide_eq_false (Nat.not_lt_zero _)
  | x :: xs, y :: ys, e, r, z, i, he, hr, hz => by
    have m : min (x :: xs).length (y :: ys).length = min xs.length ys.length + 1 := by simp only [List.length_cons]; omega
    have e0 : e i = NestedKey.beq x y := he 0
    have r0 : r i = ltK x y := hr 0
    rw [m, Ob.lexAt_succ, e0, r0, ltKs]
    by_cases c : NestedKey.beq x y = true
    · rw [if_pos c, if_pos c]
      refine lex_is xs ys e r z (i + 1) (fun j => ?_) (fun j => ?_) ?_
      · have q := he (j + 1)
        rw [show i + 1 + j = i + (j + 1) by omega, q] <;> rfl
      · have q := hr (j + 1)
        rw [show i + 1 + j = i + (j + 1) by omega, q] <;> rfl
      · rw [hz]
        exact decide_eq_decide.mpr (by simp only [List.length_cons]; omega)
    · rw [if_neg c, if_neg c]
theorem room_some {A : Around} {x : NestedKey} {n : Nat} (h : A.units + n < cLine) : A.units < cLine := by omega
mutual
theorem rich : ∀ (x y : NestedKey) (A : Around) (s : Shared) (u v : Value), okK x y = true → Pure s.heap x u → Pure s.heap y v → A.units + min x.depth y.depth < cLine → Ob.RcOp .Lt A s u v (ltK x y)
  | .none, y, _, _, _, _, h, _, _, _ => by cases y <;> simp [okK] at h
  | .num a, y, A, s, _, _, h, ru, rv, _ => by
    cases y with
    | num b => cases ru; cases rv; exact Ob.RcOp.lt_int _ _ _ _
    | _ => simp [okK] at h
  | .text a, y, A, s, _, _, h, ru, rv, _ => by
    cases y with
    | text b => cases ru; cases rv; exact fun prog w E Q q => lt_str q
    | _ => simp [okK] at h
  | .tup xs, y, A, s, _, _, h, ru, rv, hu => by
    cases y with
    | tup ys =>
      cases ru with
      | @tup l o vs n _ h1 h2 h3 h4 =>
        cases rv with
        | @tup l' o' vs' n' _ k1 k2 k3 k4 =>
          have t1 : s.heap.IsTuple l vs := ⟨_, h1, h2, _, h3⟩
          have t2 : s.heap.IsTuple l' vs' := ⟨_, k1, k2, _, k3⟩
          have n1 : vs.size = xs.length := by simpa using h4.len
          have n2 : vs'.size = ys.length := by simpa using k4.len
          have ho : okKs xs ys = true := by simpa only [okK] using h
          have deep : A.in1.units + min (NestedKey.depthAll xs) (NestedKey.depthAll ys) < cLine := by
            simp only [NestedKey.depth, Around.in1_units] at hu ⊢
            omega
          have z := Ob.RcOp.tuples_lt (A := A) (s := s) (e := keyEqAt xs ys) (r := fun j => ltK (xs.getD j .none) (ys.getD j .none)) t1 t2 (by omega) (fun j j1 j2 => ?_) fun j j1 j2 ne => ?_
          · rw [n1, n2] at z
            rw [lex_is xs ys _ _ _ 0 (fun j => by rw [Nat.zero_add]) (fun j => by rw [Nat.zero_add]) rfl] at z
            simp only [ltK]
            exact z
          · have q := eqAt_keys xs ys A.in1 s vs.toList vs'.toList (PureAll.is _ _ h4) (PureAll.is _ _ k4) deep j (by simpa using j1) (by simpa using j2)
            simpa using q
          · have q := richs xs ys A.in1 s vs.toList vs'.toList ho h4 k4 deep j (by simpa using j1) (by simpa using j2) ne
            simpa using q
    | _ => simp [okK] at h
theorem richs : ∀ (xs ys : List NestedKey) (A : Around) (s : Shared) (us vs : List Value), okKs xs ys = true → PureAll s.heap xs us → PureAll s.heap ys vs → A.units + min (NestedKey.depthAll xs) (NestedKey.depthAll ys) < cLine →
    ∀ j (h1 : j < us.length) (h2 : j < vs.length), keyEqAt xs ys j = false → Ob.RcOp .Lt A s us[j] vs[j] (ltK (xs.getD j .none) (ys.getD j .none))
  | [], _, _, _, _, _, _, ra, _, _, j, h1, _, _ => by cases ra; exact absurd h1 (Nat.not_lt_zero _)
  | _ :: _, [], _, _, _, _, _, _, rb, _, j, _, h2, _ => by cases rb; exact absurd h2 (Nat.not_lt_zero _)
  | x :: xs, y :: ys, A, s, _, _, h, ra, rb, hu, j, h1, h2, ne => by
    rw [okKs, Bool.and_eq_true] at h
    simp only [NestedKey.depthAll] at hu
    cases ra with
    | cons r rs =>
      cases rb with
      | cons r' rs' =>
        cases j with
        | zero =>
          have q : okK x y = true := by
            have z : NestedKey.beq x y = false := ne
            rw [z, Bool.false_or] at h
            exact h.1
          exact rich x y A s _ _ q r r' (by omega)
        | succ j => exact richs xs ys A s _ _ h.2 rs rs' (by omega) j (Nat.lt_of_succ_lt_succ h1) (Nat.lt_of_succ_lt_succ h2) ne
end
end NS

/-! ## N7 -/
set_option maxRecDepth 100000
set_option maxHeartbeats 2000000
/-! N7: sorted(xs) and sorted(set) of keys -/
namespace NS
open PySem PySem.Spec PyProof.Rows L2 PySem.W
def tyN (c : Nat) : String := if c = 1 then "int" else if c = 2 then "str" else "tuple"
/-- a tuple whose first item is of the kind c: 1 an int, 2 a text, 3 a tuple -/
def Leads (c : Nat) (k : NestedKey) : Prop := ∃ x xs, k = .tup (x :: xs) ∧ kindN x = c
section
variable {P : Program} {w : World} {A : Around} {E : Value → Shared → Prop} {s : Shared}
theorem lex_asks {b : Bool} : ∀ (xs ys : List NestedKey) (us vs : List Value) (i : Nat) (fin : Bool) (Q : Bool → Shared → Prop), okKs xs ys = true → PureAll s.heap xs us → PureAll s.heap ys vs → A.units + min (NestedKey.depthAll xs) (NestedKey.depthAll ys) < cLine →
    (b = true → i = 0 → ∀ x y, xs.head? = some x → ys.head? = some y → (kindN x = 1 ∧ kindN y = 1) ∨ (kindN x = 2 ∧ kindN y = 2)) → fin = decide (xs.length < ys.length) → Q (ltKs xs ys) s → KatLex P w A b fin Q (us.zip vs) i s
  | [], ys, us, vs, i, fin, Q, _, ra, rb, _, _, hf, q => by
    cases ra
    cases ys with
    | nil => cases rb; rw [hf]; exact kat_nil q
    | cons y ys =>
      cases rb
      rw [hf]
      have z : decide (([] : List NestedKey).length < (y :: ys).length) = true := decide_eq_true (Nat.succ_pos _)
      exact kat_nil (by rw [z]; exact q)
  | x :: xs, [], us, vs, i, fin, Q, _, ra, rb, _, _, hf, q => by
    cases rb
    cases ra
    rw [hf]
    have z : decide ((x :: xs).length < ([] : List NestedKey).length) = false := decide_eq_false (Nat.not_lt_zero _)
    exact kat_nil (by rw [z]; exact q)
  | x :: xs, y :: ys, us, vs, i, fin, Q, h, ra, rb, hu, h1, hf, q => by
    rw [okKs, Bool.and_eq_true] at h
    simp only [NestedKey.depthAll] at hu
    cases ra with
    | @cons _ u _ us r rs =>
      cases rb with
      | @cons _ v _ vs r' rs' =>
        show KatLex P w A b fin Q ((u, v) :: us.zip vs) i s
        refine kat_cons (eqAt_key x y A s u v (Pure.is _ _ r) (Pure.is _ _ r') (by omega) P w _ _ (kat_go (fun c => ?_) fun c => ?_))
        · refine kat_yes (lex_asks xs ys us vs (i + 1) fin Q h.2 rs rs' (by omega) (fun _ z => absurd z (Nat.succ_ne_zero _)) ?_ ?_)
          · rw [hf]
            exact decide_eq_decide.mpr (by simp only [List.length_cons]; omega)
          · rw [ltKs, if_pos c] at q
            exact q
        · have ok : okK x y = true := by
            have z := h.1
            rw [c, Bool.false_or] at z
            exact z
          rw [ltKs, if_neg (by rw [c]; exact Bool.false_ne_true)] at q
          refine kat_no ?_
          by_cases z : (b && i == 0) = true
          · rw [z]
            rw [Bool.and_eq_true] at z
            rcases h1 z.1 (eq_of_beq z.2) x y rfl rfl with ⟨k1, k2⟩ | ⟨k1, k2⟩
            · cases r <;> cases r' <;> simp only [kindN] at k1 k2 <;> first | exact absurd k1 (by decide) | exact absurd k2 (by decide) | skip
              exact oneLt_int (by simpa only [ltK] using q)
            · cases r <;> cases r' <;> simp only [kindN] at k1 k2 <;> first | exact absurd k1 (by decide) | exact absurd k2 (by decide) | skip
              exact oneLt_str (by simpa only [ltK, ltX] using q)
          · have z2 : (b && i == 0) = false := Bool.eq_false_iff.mpr z
            rw [z2]
            refine kat_one _ _ ?_
            exact rich x y A s u v ok r r' (by omega) P w _ _ q
theorem lead_look {M : Model} {h : Heap} {x : NestedKey} {u : Value} (r : Pure h x u) {c : Nat} (hc : c = 1 ∨ c = 2 ∨ c = 3) (k : kindN x = c) : Looks M h (typeOf u) (.type (tyN c)) := by
  cases r with
  | none => rcases hc with e | e | e <;> subst e <;> simp [kindN] at k
  | int i t =>
    have e : c = 1 := k.symm
    subst e
    exact Looks.now
  | text z t =>
    have e : c = 2 := k.symm
    subst e
    exact Looks.now
  | @tup a o vs n ks h1 h2 h3 h4 =>
    have e : c = 3 := k.symm
    subst e
    have z : Looks M h (typeOf (.ref a)) o.cls := (Looks.ld h1).andThen .now
    rw [h2] at z
    exact z
theorem leads_of {h : Heap} {kf : Value → NestedKey} {c : Nat} : ∀ vs : List Value, (∀ v ∈ vs, Pure h (kf v) v ∧ Leads c (kf v)) → ∃ fs, KatTups h vs fs ∧ fs.length = vs.length ∧ ∀ f ∈ fs, ∃ x, Pure h x f ∧ kindN x = c
  | [], _ => ⟨[], KatTups.nil, rfl, fun f z => by cases z⟩
  | v :: vs, hv => by
    obtain ⟨fs, f1, f2, f3⟩ := leads_of vs fun u hu => hv u (List.mem_cons_of_mem _ hu)
    obtain ⟨p, x, xs, e, k⟩ := hv v List.mem_cons_self
    rw [e] at p
    cases p with
    | @tup a o us n _ h1 h2 h3 h4 =>
      cases h5 : us.toList with
      | nil => rw [h5] at h4; cases h4
      | cons f r =>
        rw [h5] at h4
        cases h4 with
        | cons q1 q2 =>
          refine ⟨f :: fs, KatTups.cons h1 h2 h3 (by rw [← Array.getElem?_toList, h5] <;> rfl) f1, by rw [List.length_cons, List.length_cons, f2], fun g hg => ?_⟩
          rcases List.mem_cons.mp hg with z | z
          · rw [z]
            exact ⟨x, q1, k⟩
          · exact f3 g z
/-- what the sort asks of a list of keys -/
structure Sorts (h : Heap) (c : Nat) (kf : Value → NestedKey) (vs : List Value) : Prop where
  kd : c = 1 ∨ c = 2 ∨ c = 3
  each : ∀ v ∈ vs, Pure h (kf v) v ∧ Leads c (kf v) ∧ (kf v).depth ≤ 8
  two : ∀ u ∈ vs, ∀ v ∈ vs, okK (kf u) (kf v) = true
theorem Sorts.grow {h h' : Heap} {c : Nat} {kf : Value → NestedKey} {vs : List Value} (x : Sorts h c kf vs) (g : ∀ a o, h.get? a = some o → o.cls = .type "tuple" → h'.get? a = some o) : Sorts h' c kf vs :=
  ⟨x.kd, fun v hv => ⟨Pure.grow g _ _ (x.each v hv).1, (x.each v hv).2⟩, x.two⟩
theorem sorts_ok {c : Nat} {kf : Value → NestedKey} {vs : List Value} (x : Sorts s.heap c kf vs) (some_ : 0 < vs.length) (hu : A.units + 8 < cLine) {a : Addr} (ha : ∀ o, s.heap.get? a = some o → o.cls ≠ .type "tuple") : SrtO.SortableO P w A s a vs fun u v => ltK (kf u) (kf v) := by
  intro h' keep
  have y : Sorts h' c kf vs := x.grow fun b o e z => keep b o (fun q => ha o (q ▸ e) z) e
  obtain ⟨fs, f1, f2, f3⟩ := leads_of (h := h') (c := c) vs fun v hv => ⟨(y.each v hv).1, (y.each v hv).2.1⟩
  refine ⟨tuples' (Value.type (tyN c) != Value.type "tuple"), fun Q E q => ?_, fun p q hp hq => ?_⟩
  · refine kat_kind (T := .type (tyN c)) f1 (by omega) (fun f hf => ?_) (by simp) q
    obtain ⟨z, z1, z2⟩ := f3 f hf
    exact lead_look z1 y.kd z2
  · obtain ⟨p1, ⟨x1, xs1, e1, k1⟩, d1⟩ := y.each p.1 hp
    obtain ⟨p2, ⟨x2, xs2, e2, k2⟩, d2⟩ := y.each q.1 hq
    have ok := y.two _ hp _ hq
    show wpAny _ _ (keyLt' _ p.1 q.1) (fun r s' => s' = _ ∧ r = ltK (kf p.1) (kf q.1)) _ _
    generalize kf p.1 = kp at *
    generalize kf q.1 = kq at *
    subst e1 e2
    obtain ⟨u, u'⟩ := p
    obtain ⟨v, v'⟩ := q
    dsimp only at p1 p2 ⊢
    cases p1 with
    | @tup l o us n _ h1 h2 h3 h4 =>
      cases p2 with
      | @tup l' o' us' n' _ g1 g2 g3 g4 =>
        simp only [okK] at ok
        simp only [NestedKey.depth] at d1 d2
        refine kat_lt h1 h3 g1 g3 (lex_asks (s := { s with heap := h' }) _ _ _ _ 0 _ _ ok h4 g4 (by omega) (fun hb _ x y ex ey => ?_) ?_ ⟨rfl, by simp only [ltK]⟩)
        · obtain rfl : x1 = x := Option.some.inj ex
          obtain rfl : x2 = y := Option.some.inj ey
          rcases x.kd with e | e | e
          · exact .inl ⟨k1.trans e, k2.trans e⟩
          · exact .inr ⟨k1.trans e, k2.trans e⟩
          · rw [e] at hb
            exact absurd hb (by decide)
        · have n1 : us.size = (x1 :: xs1).length := by simpa using h4.len
          have n2 : us'.size = (x2 :: xs2).length := by simpa using g4.len
          rw [n1, n2]
/-- sorted(xs) -/
theorem sorted_list {l : Addr} {vs : List Value} {c : Nat} {kf : Value → NestedKey} {Q : Value → Shared → Prop} (x : Sorts s.heap c kf vs) (hl : s.heap.IsList l vs.toArray) (hz : vs.length ≤ sizeLine) (hu : A.units + 16 < cLine)
    (h : ∀ (h' : Heap) (d : Addr) (out : List Value), SrtO.Srtd (fun u v => ltK (kf u) (kf v)) out → out.Perm vs → (∀ b o, s.heap.get? b = some o → h'.get? b = some o) → s.heap.objs.size ≤ d → (∃ n, h'.get? d = some (seqObj "list" out.toArray n)) → Q (.ref d) { s with heap := h' }) :
    wpAny (model P w) A (call (.builtin "sorted") [.ref l]) Q E s := by
  refine SrtO.sorted_ord (swo_by kf) hl hz (fun h2 h1 a ha kk => ?_) fun out hs hb => h _ _ out hs hb.perm (fun b o e => sortedAll_old e) (Nat.le_succ _) (sortedAll_at s.heap vs out.toArray)
  refine sorts_ok (s := { s with heap := h1 }) (x.grow fun b o e _ => (kk b o e).2) (by omega) (by simp only [Around.in1_units]; omega) fun o e z => ?_
  rw [ha] at e
  cases e
  exact absurd (Value.type.inj z) (by decide)
/-- sorted(a set) -/
theorem sorted_set {a : Addr} {M : List Row} {rs : Array (Int × Value)} {n : Nat} {t : SetTable} {c : Nat} {kf : Value → NestedKey} {Q : Value → Shared → Prop} (S : Holds w s.heap a M rs n t) (hh : A.handled = none) (hu : A.units + 16 < cLine)
    (hk : ∀ m ∈ M, kf (.ref m.1) = m.2) (x : Sorts s.heap c kf (M.map fun m => Value.ref m.1))
    (h : ∀ s' p out (M' : List Row) e, (∀ b o, s.heap.get? b = some o → s'.heap.get? b = some o) → s'.gens = s.gens → s'.os = s.os → s.heap.objs.size ≤ p → s'.heap.get? p = some (seqObj "list" out e) → out.toList = M'.map (fun m => Value.ref m.1) → M'.Perm M →
      M'.Pairwise (fun m m' => ltK m.2 m'.2 = true) → Q (.ref p) s') : wpAny (model P w) A (call (.builtin "sorted") [.ref a]) Q E s := by
  obtain ⟨o, ho, hex, hd⟩ := S.obj
  have sz := size_of S.is
  have few := S.few
  refine Calls.call_function_entry kind_sorted plain_sorted entry_sorted (args_sorted1 _) ?_
  unfold Builtin.«sorted»
  refine wpAny_bind (m := checkCount "sorted" 1 1 _) (wpAny_pure ?_)
  refine wpAny_bind (collect_set (A := A.in1) hh ⟨o, ho, hex.1, hd⟩ S.fits (by unfold scanBound; omega) S.tab.ris S.led fun s1 vs g1 z1 g2 o1 pm => ?_)
  have ev : rs.toList.map (·.2) = M.map fun m => Value.ref m.1 := by rw [S.is, List.map_map] <;> rfl
  rw [ev] at pm
  have len : vs.length = M.length := by rw [pm.length_eq, List.length_map]
  -- the rows in the order of vs
  have rows : ∀ us : List Value, us.Perm (M.map fun m => Value.ref m.1) → ∃ M' : List Row, us = M'.map (fun m => Value.ref m.1) ∧ M'.Perm M := fun us pu => by
    have inj : ∀ m ∈ M, ∀ m' ∈ M, Value.ref m.1 = Value.ref m'.1 → m = m' := fun m hm m' hm' e => by
      have k := hk m hm
      rw [e, hk m' hm'] at k
      obtain ⟨b, kb⟩ := m
      obtain ⟨b', kb'⟩ := m'
      cases e
      dsimp only at k
      rw [k]
    have key : ∀ us : List Value, ∀ N : List Row, us.Perm (N.map fun m => Value.ref m.1) → ∃ M' : List Row, us = M'.map (fun m => Value.ref m.1) ∧ M'.Perm N := by
      intro us
      induction us with
      | nil =>
        intro N q
        have e : N = [] := List.map_eq_nil_iff.mp q.symm.eq_nil
        exact ⟨[], rfl, by rw [e]⟩
      | cons u us ih =>
        intro N q
        obtain ⟨m, hm, e⟩ := List.mem_map.mp (q.mem_iff.mp List.mem_cons_self)
        obtain ⟨N1, N2, eN⟩ := List.append_of_mem hm
        have q2 : (u :: us).Perm (u :: (N1 ++ N2).map fun m => Value.ref m.1) := by
          refine q.trans ?_
          rw [eN, List.map_append, List.map_cons, List.map_append, e]
          exact List.perm_middle
        obtain ⟨M', e', p'⟩ := ih (N1 ++ N2) q2.cons_inv
        refine ⟨m :: M', by rw [List.map_cons, e, ← e'], ?_⟩
        rw [eN]
        exact (p'.cons m).trans List.perm_middle.symm
    exact key us M pu
  refine wpAny_bind (wpAny_newList ?_ (by rw [sizeLine_eq]; omega))
  have isL : (s1.heap.push (seqObj "list" vs.toArray 0)).get? s1.heap.objs.size = some (seqObj "list" vs.toArray 0) := Heap.get?_push_size _ rfl
  have y : Sorts (s1.heap.push (seqObj "list" vs.toArray 0)) c kf vs := by
    have z : Sorts (s1.heap.push (seqObj "list" vs.toArray 0)) c kf (M.map fun m => Value.ref m.1) := x.grow fun b u e _ => Heap.get?_push_of_some _ (g1 b u e)
    exact ⟨z.kd, fun v hv => z.each v (pm.mem_iff.mp hv), fun u hu' v hv => z.two u (pm.mem_iff.mp hu') v (pm.mem_iff.mp hv)⟩
  refine wpAny_bind (wpAny_holding (wpAny_call_entry slot_list_sort ⟨_, isL, rfl⟩ entry_list_sort (SrtO.list_sort_ord (s := { s1 with heap := s1.heap.push (seqObj "list" vs.toArray 0) }) (swo_by kf) isL (by rw [sizeLine_eq]; omega) (fun two => ?_) fun out hs hb => ⟨_, rfl, ?_⟩) (args_list_sort _)))
  · refine sorts_ok (s := { s1 with heap := s1.heap.push (seqObj "list" vs.toArray 0) }) y (by omega) (by simp only [Around.in1_units]; omega) fun o' e z => ?_
    rw [isL] at e
    cases e
    exact absurd (Value.type.inj z) (by decide)
  · obtain ⟨e, he⟩ := sortedHeap_at (out := out.toArray) isL
    obtain ⟨M', eo, pM⟩ := rows out (hb.perm.trans pm)
    refine wpAny_pure ⟨_, rfl, h _ s1.heap.objs.size out.toArray M' e (fun b u q => ?_) g2 o1 z1 he eo pM ?_⟩
    · have q1 := g1 b u q
      have lt := Heap.lt_size q1
      show (sortedHeap (s1.heap.push (seqObj "list" vs.toArray 0)) s1.heap.objs.size vs out.toArray).get? b = some u
      rw [sortedHeap_old (Nat.ne_of_lt lt) (by rw [size_push']; exact Nat.lt_succ_of_lt lt)]
      exact Heap.get?_push_of_some _ q1
    · have nd : (M'.map (·.2)).Nodup := (pM.map (·.2)).nodup_iff.mpr S.nd
      rw [eo] at hs
      have z := List.pairwise_map.mp hs
      have z2 := List.pairwise_map.mp nd
      refine List.Pairwise.imp_of_mem (fun {m m'} hm hm' hp => ?_) (z.and z2)
      have k1 := hk m (pM.mem_iff.mp hm)
      have k2 := hk m' (pM.mem_iff.mp hm')
      obtain ⟨hp1, hp2⟩ := hp
      dsimp only at hp1
      rw [k1, k2] at hp1
      rcases ltK_tot _ _ hp2 with q | q
      · exact q
      · rw [q] at hp1
        cases hp1
end
end NS

/-! ## N8 -/
set_option maxRecDepth 100000
set_option maxHeartbeats 2000000
/-! N8: sets and sorted lists of keys as rules of the layer -/
namespace NS
open PySem PySem.Spec PyProof.Rows L2
mutual
/-- the value is this key -/
inductive Kv (K : PySem.W.Frag) (H : Hp) : V → NestedKey → Prop
  | non : Kv K H .non .none
  | int (i : Int) : Kv K H (.int i) (.num i)
  | str (x : Str) : Kv K H (.str x) (.text x)
  | tup {t : Addr} {vs : List V} {ks : List NestedKey} : SqT K H t vs → KvAll K H vs ks → Kv K H (.ref t) (.tup ks)
inductive KvAll (K : PySem.W.Frag) (H : Hp) : List V → List NestedKey → Prop
  | nil : KvAll K H [] []
  | cons {v : V} {k : NestedKey} {vs : List V} {ks : List NestedKey} : Kv K H v k → KvAll K H vs ks → KvAll K H (v :: vs) (k :: ks)
end
mutual
theorem kv_same {K : PySem.W.Frag} {H H' : Hp} (g : ∀ t vs, SqT K H t vs → SqT K H' t vs) : ∀ (k : NestedKey) (v : V), Kv K H v k → Kv K H' v k
  | .none, _, x => by cases x; exact .non
  | .num _, _, x => by cases x; exact .int _
  | .text _, _, x => by cases x; exact .str _
  | .tup ks, _, x => by
    cases x with
    | tup h1 h2 => exact .tup (g _ _ h1) (kvs_same g ks _ h2)
theorem kvs_same {K : PySem.W.Frag} {H H' : Hp} (g : ∀ t vs, SqT K H t vs → SqT K H' t vs) : ∀ (ks : List NestedKey) (vs : List V), KvAll K H vs ks → KvAll K H' vs ks
  | [], _, x => by cases x; exact .nil
  | k :: ks, _, x => by
    cases x with
    | cons h1 h2 => exact .cons (kv_same g k _ h1) (kvs_same g ks _ h2)
end
section
variable {X : Cx} {pins : List (Addr × Obj)} {σ : L2.St} {H : Hp} {s : Shared}
mutual
theorem pure_of (I : Inv X pins σ H s) : ∀ (k : NestedKey) (v : V) (u : Value), Kv X.K H v k → RelV v u → Pure s.heap k u
  | .none, _, u, x, r => by cases x; cases r; exact .none
  | .num i, _, u, x, r => by
    cases x
    obtain ⟨t, rfl⟩ := r
    exact .int _ _
  | .text z, _, u, x, r => by
    cases x
    obtain ⟨t, rfl⟩ := r
    exact .text _ _
  | .tup ks, _, u, x, r => by
    cases x with
    | @tup t vs _ h1 h2 =>
      obtain rfl : u = Value.ref t := r
      obtain ⟨its, rv, ⟨o, ho, hc, n, hd⟩, _⟩ := I.tuple h1
      exact .tup ho hc hd (by simpa using pures_of I ks vs its h2 rv)
theorem pures_of (I : Inv X pins σ H s) : ∀ (ks : List NestedKey) (vs : List V) (us : List Value), KvAll X.K H vs ks → Vals vs us → PureAll s.heap ks us
  | [], _, _, x, r => by cases x; cases r; exact .nil
  | k :: ks, _, _, x, r => by
    cases x with
    | cons h1 h2 =>
      cases r with
      | cons r1 r2 => exact .cons (pure_of I k _ _ h1 r1) (pures_of I ks _ _ h2 r2)
end
/-- a row of the layer: where the key stands, the key -/
def Kr (K : PySem.W.Frag) (H : Hp) (m : Row) : Prop := Kv K H (.ref m.1) m.2 ∧ m.2.depth ≤ 8
theorem at_of_kr (I : Inv X pins σ H s) {m : Row} (h : Kr X.K H m) : At s.heap m.2 m.1 := ⟨Pure.is _ _ (pure_of I _ _ _ h.1 rfl), h.2⟩
/-- the set at a -/
def SetN (w : World) (a : Addr) (M : List Row) : HO := .ext fun h => ∃ rs n t, Holds w h a M rs n t
theorem setN_new {P : Program} {w : World} {H : Hp} {h : Heap} {a : Addr} {M : List Row} (S : ∃ rs n t, Holds w h a M rs n t) : ObjOk P w H h a (SetN w a M) := by
  obtain ⟨rs, n, t, S⟩ := S
  obtain ⟨o, ho, _⟩ := S.obj
  exact ⟨⟨rs, n, t, S⟩, ⟨o, ho⟩, fun h1 h2 ⟨rs', n', t', S'⟩ g => ⟨rs', n', t', S'.grow g⟩⟩
theorem refs_row : ∀ {N : List Row} {us : List Value}, Vals (N.map fun m => V.ref m.1) us → us = N.map fun m => Value.ref m.1
  | [], _, r => by cases r; rfl
  | m :: N, _, r => by
    cases r with
    | cons r1 r2 =>
      cases r1
      rw [refs_row r2]
      rfl
theorem row_refs : ∀ N : List Row, Vals (N.map fun m => V.ref m.1) (N.map fun m => Value.ref m.1)
  | [] => .nil
  | _ :: N => .cons rfl (row_refs N)
/-- set(xs) of a list of keys -/
def rSetOf (K : PySem.W.Frag) (w : World) : List V → Hp → VK → Prop := fun xs H Q => ∃ (l : Addr) (N : List Row), xs = [V.ref l] ∧ SqL K H l (N.map fun m => V.ref m.1) ∧ (∀ m ∈ N, Kr K H m) ∧ N.length < 64 ∧
  ∀ a M, H a = none → (∀ m ∈ M, m ∈ N) → (∀ m ∈ N, m.2 ∈ M.map (·.2)) → (M.map (·.2)).Nodup → Q (.ref a) (upd H a (SetN w a M))
theorem cr_setOf (hc : X.calm = true) (hu : X.A.units + 64 < cLine) : CallR X (.type "set") (rSetOf X.K X.w) := by
  intro pins s σ H xs us Q I r h
  obtain ⟨l, N, rfl, hl, hk, few, q⟩ := h
  rw [Vals.ref1 r]
  obtain ⟨its, rv, pl, hz⟩ := I.list hl
  refine set_keys (P := X.prog) (w := X.w) (N := N) (I.ok.hd hc) pl.isList (by simpa using refs_row rv) (fun m hm => at_of_kr I (hk m hm)) few (by omega) fun h' tk M rs c t S T g => ?_
  exact ⟨.ref s.heap.objs.size, upd H s.heap.objs.size (SetN X.w s.heap.objs.size M), I.laid (t' := tk) g (Nat.le_refl _) (setN_new ⟨rs, c, t, S⟩), rfl, q _ M (I.hok.fresh (Nat.le_refl _)) T.sub (fun m hm => T.all m (by rw [List.take_length]; exact hm)) S.nd⟩
/-- by their addresses, the keys -/
def keyOf (N : List Row) (u : Value) : NestedKey := ((N.find? fun m => match u with | .ref b => m.1 == b | _ => false).map (·.2)).getD .none
theorem keyOf_at {N : List Row} (one : ∀ m ∈ N, ∀ m' ∈ N, m.1 = m'.1 → m.2 = m'.2) {m : Row} (hm : m ∈ N) : keyOf N (.ref m.1) = m.2 := by
  unfold keyOf
  cases e : N.find? fun m' => m'.1 == m.1 with
  | none =>
    have z := List.find?_eq_none.mp e m hm
    simp at z
  | some m' =>
    have z := List.find?_some e
    exact one m' (List.mem_of_find?_eq_some e) m hm (eq_of_beq z)
/-- such keys are sorted by their order -/
structure Lined (c : Nat) (N : List Row) : Prop where
  kd : c = 1 ∨ c = 2 ∨ c = 3
  lead : ∀ m ∈ N, Leads c m.2
  two : ∀ m ∈ N, ∀ m' ∈ N, okK m.2 m'.2 = true
theorem sorts_of (I : Inv X pins σ H s) {N : List Row} {c : Nat} (hk : ∀ m ∈ N, Kr X.K H m) (L : Lined c N) : Sorts s.heap c (keyOf N) (N.map fun m => Value.ref m.1) ∧ ∀ m ∈ N, keyOf N (.ref m.1) = m.2 := by
  have one : ∀ m ∈ N, ∀ m' ∈ N, m.1 = m'.1 → m.2 = m'.2 := fun m hm m' hm' e => by
    have x := at_of_kr I (hk m hm)
    rw [e] at x
    exact x.one (at_of_kr I (hk m' hm'))
  have at_ : ∀ m ∈ N, keyOf N (.ref m.1) = m.2 := fun m hm => keyOf_at one hm
  refine ⟨⟨L.kd, fun v hv => ?_, fun u hu v hv => ?_⟩, at_⟩
  · obtain ⟨m, hm, rfl⟩ := List.mem_map.mp hv
    rw [at_ m hm]
    exact ⟨pure_of I _ _ _ (hk m hm).1 rfl, L.lead m hm, (hk m hm).2⟩
  · obtain ⟨m, hm, rfl⟩ := List.mem_map.mp hu
    obtain ⟨m', hm', rfl⟩ := List.mem_map.mp hv
    rw [at_ m hm, at_ m' hm']
    exact L.two m hm m' hm'
/-- sorted(a set of keys) -/
def rSortSet (K : PySem.W.Frag) (w : World) : List V → Hp → VK → Prop := fun vs H Q => ∃ (a : Addr) (M : List Row) (c : Nat), vs = [V.ref a] ∧ H a = some (SetN w a M) ∧ (∀ m ∈ M, Kr K H m) ∧ Lined c M ∧
  ∀ (M' : List Row) (p : Addr), M'.Perm M → M'.Pairwise (fun m m' => ltK m.2 m'.2 = true) → H p = none → Q (.ref p) (upd H p (.lst (M'.map fun m => V.ref m.1)))
theorem cr_sortSet (hc : X.calm = true) (hu : X.A.units + 64 < cLine) : CallR X (.builtin "sorted") (rSortSet X.K X.w) := by
  intro pins s σ H vs us Q I r h
  obtain ⟨a, M, c, rfl, ha, hk, L, q⟩ := h
  obtain ⟨rs, n, t, S⟩ := (I.hok a _ ha).1
  rw [Vals.ref1 r]
  obtain ⟨So, at_⟩ := sorts_of I hk L
  refine sorted_set S (I.ok.hd hc) (by omega) at_ So fun s' p out M' e g g2 o hp hg ho pm pw => ?_
  have few : M'.length < 64 := by rw [pm.length_eq]; exact S.few
  have len : (M'.map fun m => V.ref m.1).length ≤ sizeLine := by rw [List.length_map, sizeLine_eq]; omega
  have J : Inv X pins σ (upd H p (.lst (M'.map fun m => V.ref m.1))) { s with heap := s'.heap, gens := s'.gens, drawn := s'.drawn, toks := s'.toks } :=
    I.call (ch := []) (Un.laid g hp (I.hok.fresh hp)) (I.hok.laid g hp ⟨len, out.toList, e, by rw [ho]; exact row_refs M', by simpa using hg⟩) (by rw [g2]; exact I.bare) fun _ z => nomatch z
  have es : s' = { s with heap := s'.heap, gens := s'.gens, drawn := s'.drawn, toks := s'.toks } := by
    cases s'
    cases s
    cases o
    rfl
  rw [es]
  exact ⟨.ref p, _, J, rfl, q M' p pm pw (I.hok.fresh hp)⟩
/-- sorted(a list of keys) -/
def rSortList (K : PySem.W.Frag) : List V → Hp → VK → Prop := fun vs H Q => ∃ (l : Addr) (N : List Row) (c : Nat), vs = [V.ref l] ∧ SqL K H l (N.map fun m => V.ref m.1) ∧ (∀ m ∈ N, Kr K H m) ∧ Lined c N ∧
  ∀ (M' : List Row) (p : Addr), M'.Perm N → M'.Pairwise (fun m m' => ltK m'.2 m.2 = false) → H p = none → Q (.ref p) (upd H p (.lst (M'.map fun m => V.ref m.1)))
theorem perm_rows (N : List Row) : ∀ us : List Value, us.Perm (N.map fun m => Value.ref m.1) → ∃ M' : List Row, us = M'.map (fun m => Value.ref m.1) ∧ M'.Perm N := by
  intro us
  induction us generalizing N with
  | nil =>
    intro q
    have e : N = [] := List.map_eq_nil_iff.mp q.symm.eq_nil
    exact ⟨[], rfl, by rw [e]⟩
  | cons u us ih =>
    intro q
    obtain ⟨m, hm, e⟩ := List.mem_map.mp (q.mem_iff.mp List.mem_cons_self)
    obtain ⟨N1, N2, eN⟩ := List.append_of_mem hm
    have q2 : (u :: us).Perm (u :: (N1 ++ N2).map fun m => Value.ref m.1) := by
      refine q.trans ?_
      rw [eN, List.map_append, List.map_cons, List.map_append, e]
      exact List.perm_middle
    obtain ⟨M', e', p'⟩ := ih (N1 ++ N2) q2.cons_inv
    refine ⟨m :: M', by rw [List.map_cons, e, ← e'], ?_⟩
    rw [eN]
    exact (p'.cons m).trans List.perm_middle.symm
theorem cr_sortList (hu : X.A.units + 64 < cLine) : CallR X (.builtin "sorted") (rSortList X.K) := by
  intro pins s σ H vs us Q I r h
  obtain ⟨l, N, c, rfl, hl, hk, L, q⟩ := h
  rw [Vals.ref1 r]
  obtain ⟨its, rv, pl, hz⟩ := I.list hl
  have ei := refs_row rv
  subst ei
  obtain ⟨So, at_⟩ := sorts_of I hk L
  have hz2 : (N.map fun m => Value.ref m.1).length ≤ sizeLine := by
    rw [List.length_map] at hz ⊢
    exact hz
  refine sorted_list So pl.isList hz2 (by omega) fun h' d out hs pm g hd hn => ?_
  obtain ⟨M', eo, pM⟩ := perm_rows N out pm
  obtain ⟨n, hn⟩ := hn
  have len : (M'.map fun m => V.ref m.1).length ≤ sizeLine := by
    rw [List.length_map, pM.length_eq]
    rw [List.length_map] at hz
    exact hz
  refine ⟨.ref d, upd H d (.lst (M'.map fun m => V.ref m.1)), I.laid (t' := s.toks) g hd ⟨len, out, n, by rw [eo]; exact row_refs M', hn⟩, rfl, q M' d pM ?_ (I.hok.fresh hd)⟩
  rw [eo] at hs
  refine List.Pairwise.imp_of_mem (fun {m m'} hm hm' hp => ?_) (List.pairwise_map.mp hs)
  dsimp only at hp
  rw [at_ m (pM.mem_iff.mp hm), at_ m' (pM.mem_iff.mp hm')] at hp
  exact hp
end
end NS

/-! ## Q0 -/
set_option maxRecDepth 100000
set_option maxHeartbeats 2000000
namespace K0
open PySem PySem.Spec PyProof.Rows L2
/-! ### the letters of a text as a tuple, as a list -/
def lettersOf (z : Str) : List Str := z.cps.toList.map fun c => ⟨#[c]⟩
theorem letters_len (z : Str) : (lettersOf z).length = z.cps.size := by
  unfold lettersOf
  rw [List.length_map, Array.length_toList]
theorem letters_vals {z : Str} {acc : Array Value} (h : ItemsOf (SignAt z) acc z.cps.size) : Vals ((lettersOf z).map V.str) acc.toList := by
  obtain ⟨hn, at_⟩ := h
  have go : ∀ (cs : List Nat) (us : List Value), us.length = cs.length → (∀ (j : Nat) (v : Value), us[j]? = some v → ∃ (c : Nat) (u : Tok), cs[j]? = some c ∧ v = Value.str ⟨#[c]⟩ u) → Vals ((cs.map fun c => (⟨#[c]⟩ : Str)).map V.str) us := by
    intro cs
    induction cs with
    | nil =>
      intro us e _
      rw [List.eq_nil_of_length_eq_zero e]
      exact .nil
    | cons c cs ih =>
      intro us e a
      cases us with
      | nil => cases e
      | cons u us =>
        obtain ⟨c', t, hc, rfl⟩ := a 0 u rfl
        obtain rfl : c = c' := Option.some.inj hc
        exact .cons ⟨t, rfl⟩ (ih us (Nat.succ.inj e) fun j v hj => a (j + 1) v hj)
  refine go z.cps.toList acc.toList (by rw [Array.length_toList, Array.length_toList, hn]) fun j v hj => ?_
  obtain ⟨c, u, e1, e2⟩ := at_ j v (by rw [← Array.getElem?_toList]; exact hj)
  exact ⟨c, u, by rw [Array.getElem?_toList]; exact e1, e2⟩
section
variable {X : Cx}
theorem cr_tupleTx (hc : X.calm = true) : CallR X (.type "tuple") (fun xs H Q => ∃ z, xs = [.str z] ∧ z.cps.size ≤ 1000 ∧ ∀ t, H t = none → Q (.ref t) (upd H t (.tup ((lettersOf z).map V.str)))) := by
  intro pins s σ H xs us Q I r h
  obtain ⟨z, rfl, hz, q⟩ := h
  obtain ⟨u, rfl, rx⟩ := vals1 r
  obtain ⟨t, rfl⟩ := rx
  have hs : z.cps.size ≤ sizeLine := Nat.le_trans hz (by rw [sizeLine_eq]; decide)
  refine call_tuple_str (I.ok.hd hc) z t (fun h' tk acc g it => ?_) hs
  have I1 : Inv X pins σ H { s with heap := h', toks := tk } := I.kept (t' := tk) g
  have I2 : Inv X pins σ (upd H h'.objs.size (.tup ((lettersOf z).map V.str))) { s with heap := h'.push { cls := .type "tuple", data := .seq acc }, toks := tk } :=
    I1.laid (t' := tk) (fun b o e => Heap.get?_push_of_some _ e) (Nat.le_refl _) (show ObjOk X.prog X.w _ _ _ (.tup _) from ⟨by rw [List.length_map, letters_len]; exact hs, acc.toList, letters_vals it, by simpa using IsTup.new h' acc⟩)
  exact ⟨.ref h'.objs.size, _, I2, rfl, q _ (I1.hok.fresh (Nat.le_refl _))⟩
theorem cr_listTx (hc : X.calm = true) : CallR X (.type "list") (fun xs H Q => ∃ z, xs = [.str z] ∧ z.cps.size ≤ 1000 ∧ ∀ l, H l = none → Q (.ref l) (upd H l (.lst ((lettersOf z).map V.str)))) := by
  intro pins s σ H xs us Q I r h
  obtain ⟨z, rfl, hz, q⟩ := h
  obtain ⟨u, rfl, rx⟩ := vals1 r
  obtain ⟨t, rfl⟩ := rx
  have hs : z.cps.size ≤ sizeLine := Nat.le_trans hz (by rw [sizeLine_eq]; decide)
  refine call_list_str (I.ok.hd hc) z t (fun h' tk acc c g isL it => ?_) hs
  exact ⟨.ref s.heap.objs.size, _, I.laid (t' := tk) g (Nat.le_refl _) (show ObjOk X.prog X.w _ h' _ (.lst _) from ⟨by rw [List.length_map, letters_len]; exact hs, acc.toList, c, letters_vals it, by simpa using isL⟩), rfl, q _ (I.hok.fresh (Nat.le_refl _))⟩
/-- tuple(x), x a text or a tuple -/
def rTupX (K : PySem.W.Frag) : List V → Hp → VK → Prop := fun xs H Q => (∃ z, xs = [.str z] ∧ z.cps.size ≤ 1000 ∧ ∀ t, H t = none → Q (.ref t) (upd H t (.tup ((lettersOf z).map V.str)))) ∨ (∃ a ys, xs = [.ref a] ∧ SqT K H a ys ∧ Q (.ref a) H)
theorem cr_tupX (hc : X.calm = true) : CallR X (.type "tuple") (rTupX X.K) := CallR.or (cr_tupleTx hc) call_tupleT
end
end K0

/-! ## Q1 -/
set_option maxRecDepth 100000
set_option maxHeartbeats 2000000
namespace K0
open PySem L2 NS
/-! ### a comprehension that makes objects -/
theorem lc_made {J : It} {n : Nat} {G : Hp → Prop} {Y : Nat → Hp → V → Hp → Prop} (w : Walk J n G Y) {g : TG} {te : TE} {vs : List Nat} {σ : L2.St} {H1 : Hp} {D : Addr} {Qd : Hp → Prop} (R : Nat → V → Hp → Prop)
    (mono : ∀ i y H H', R i y H → Kd D H H' → R i y H') (hn : n < sizeLine) (hD : H1 D = none) (hG : ∀ H, Same H1 H → G H)
    (hs : ∀ i x H H', i < n → Same H1 H → (∃ acc, H D = some (.lst acc)) → Y i H x H' → g x (wipe σ vs) H' fun σ2 H2 => wipe σ2 vs = wipe σ vs ∧ ∀ (Q : V → Hp → Prop), (∀ y H4, Same H H4 → R i y H4 → Q y H4) → te σ2 H2 Q)
    (gm : ∀ x σ H (P R : L2.St → Hp → Prop), (∀ σ2 H2, P σ2 H2 → R σ2 H2) → g x σ H P → g x σ H R)
    (hd : ∀ H acc, Same H1 H → H D = some (.lst acc) → acc.length = n → (∀ i y, acc[i]? = some y → R i y H) → Qd H) :
    ∃ W : Nat → Nat → Hp → Prop, (∃ m, W 0 m (upd H1 D (.lst []))) ∧ ∀ i m H, W i m H →
      (J.stop i H ∧ Qd H) ∨ (J.go i H ∧ ∃ Nx : Hp → Prop, (∀ H', Nx H' → ∃ m', m' < m ∧ W (i + 1) m' H') ∧ ∀ x H', J.yld i H x H' → g x (wipe σ vs) H' fun σ2 H2 => wipe σ2 vs = wipe σ vs ∧ tYes σ2 H2 fun b H3 =>
        if b = true then te σ2 H3 fun y H4 => ∃ acc, H4 D = some (.lst acc) ∧ acc.length < sizeLine ∧ Nx (upd H4 D (.lst (acc ++ [y]))) else Nx H3) := by
  refine lc_it w (fun i H => Same H1 H ∧ ∃ acc, H D = some (.lst acc) ∧ acc.length = i ∧ ∀ j y, acc[j]? = some y → R j y H) ⟨Same.new _ hD, [], upd_same, rfl, fun j y z => by simp at z⟩ (fun i H _ p => hG H p.1) (fun i x H H' hi p y => ?_) (fun H p => ?_)
  · obtain ⟨p1, acc, p2, p3, p4⟩ := p
    refine gm _ _ _ _ _ (fun σ2 H2 q => ⟨q.1, ?_⟩) (hs i x H H' hi p1 ⟨acc, p2⟩ y)
    dsimp only [tYes]
    rw [if_pos rfl]
    refine q.2 _ fun y H4 s4 r4 => ⟨acc, s4 _ _ p2, by omega, ?_, acc ++ [y], upd_same, by rw [List.length_append, p3]; rfl, ?_⟩
    · exact fun b o e => by rw [upd_ne (ne_of_none e hD)]; exact s4 _ _ (p1 _ _ e)
    · intro j u hu
      have kd : Kd D H4 (upd H4 D (.lst (acc ++ [y]))) := fun b o nb e => by rw [upd_ne nb]; exact e
      by_cases c : j < acc.length
      · rw [List.getElem?_append_left c] at hu
        exact mono _ _ _ _ (mono _ _ _ _ (p4 j u hu) fun b o _ e => s4 _ _ e) kd
      · have c2 : j = acc.length := by
          have z := (List.getElem?_eq_some_iff.mp hu).1
          rw [List.length_append] at z
          simp at z
          omega
        rw [c2, List.getElem?_append_right (Nat.le_refl _), Nat.sub_self] at hu
        obtain rfl : y = u := Option.some.inj hu
        rw [c2, p3]
        exact mono _ _ _ _ r4 kd
  · obtain ⟨p1, acc, p2, p3, p4⟩ := p
    exact hd H acc p1 p2 p3 p4
theorem gPair_mono {K : PySem.W.Frag} {i j : Nat} : ∀ x σ H (P R : L2.St → Hp → Prop), (∀ σ2 H2, P σ2 H2 → R σ2 H2) → gTup K 2 (gCons (gName i) (gCons (gName j) gNil)) x σ H P → gTup K 2 (gCons (gName i) (gCons (gName j) gNil)) x σ H R :=
  fun x σ H P R h ⟨a, xs, e1, e2, e3, v, r, e4, v2, r2, e5, e6, p⟩ => ⟨a, xs, e1, e2, e3, v, r, e4, v2, r2, e5, e6, h _ _ p⟩
/-! ### clauses -/
abbrev CL := Str × List Str
def ClA (H : Hp) (t : Addr) (c : CL) : Prop := ∃ t2, H t = some (.tup [.str c.1, .ref t2]) ∧ H t2 = some (.tup (c.2.map V.str))
theorem ClA.same {H H' : Hp} {t : Addr} {c : CL} (h : ClA H t c) (s : Same H H') : ClA H' t c := by
  obtain ⟨t2, h1, h2⟩ := h
  exact ⟨t2, s _ _ h1, s _ _ h2⟩
def keyC (c : CL) : NestedKey := .tup [.text c.1, .tup (c.2.map NestedKey.text)]
theorem depth_texts : ∀ l : List Str, NestedKey.depthAll (l.map NestedKey.text) = 0
  | [] => rfl
  | _ :: l => by rw [List.map_cons, NestedKey.depthAll, depth_texts l]; rfl
theorem keyC_depth (c : CL) : (keyC c).depth = 2 := by
  simp [keyC, NestedKey.depth, NestedKey.depthAll, depth_texts]
theorem texts_kv {K : PySem.W.Frag} {H : Hp} : ∀ l : List Str, KvAll K H (l.map V.str) (l.map NestedKey.text)
  | [] => .nil
  | _ :: l => .cons (.str _) (texts_kv l)
theorem ClA.kr {K : PySem.W.Frag} {H : Hp} {t : Addr} {c : CL} (h : ClA H t c) : Kr K H (t, keyC c) := by
  obtain ⟨t2, h1, h2⟩ := h
  exact ⟨.tup (SqT.of h1) (.cons (.str _) (.cons (.tup (SqT.of h2) (texts_kv _)) .nil)), by show (keyC c).depth ≤ 8; rw [keyC_depth]; decide⟩
theorem ok_texts : ∀ l m : List Str, okKs (l.map NestedKey.text) (m.map NestedKey.text) = true
  | [], _ => by simp [okKs]
  | _ :: _, [] => by simp [okKs]
  | a :: l, b :: m => by
    rw [List.map_cons, List.map_cons, okKs, ok_texts l m]
    simp [okK]
theorem ok_clauses (c c' : CL) : okK (keyC c) (keyC c') = true := by
  simp [keyC, okK, okKs, ok_texts]
theorem map_text_inj : ∀ {l m : List Str}, l.map NestedKey.text = m.map NestedKey.text → l = m
  | [], [], _ => rfl
  | [], _ :: _, h => by cases h
  | _ :: _, [], h => by cases h
  | a :: l, b :: m, h => by
    rw [List.map_cons, List.map_cons] at h
    injection h with h1 h2
    injection h1 with h1
    rw [h1, map_text_inj h2]
theorem keyC_inj {c c' : CL} (h : keyC c = keyC c') : c = c' := by
  unfold keyC at h
  injection h with h
  injection h with h1 h2
  injection h1 with h1
  injection h2 with h2 _
  injection h2 with h2
  exact Prod.ext h1 (map_text_inj h2)
def ltC (c c' : CL) : Bool := ltK (keyC c) (keyC c')
theorem ltC_irr (c : CL) : ltC c c = false := ltK_irr _
theorem ltC_tr {a b c : CL} (h1 : ltC a b = true) (h2 : ltC b c = true) : ltC a c = true := ltK_tr _ _ _ h1 h2
/-- clauses at these addresses -/
inductive Cls (H : Hp) : List Addr → List CL → Prop
  | nil : Cls H [] []
  | cons {t : Addr} {c : CL} {ts : List Addr} {cs : List CL} : ClA H t c → Cls H ts cs → Cls H (t :: ts) (c :: cs)
theorem Cls.same {H H' : Hp} (s : Same H H') : ∀ {ts : List Addr} {cs : List CL}, Cls H ts cs → Cls H' ts cs
  | _, _, .nil => .nil
  | _, _, .cons h r => .cons (h.same s) (r.same s)
theorem Cls.len {H : Hp} : ∀ {ts : List Addr} {cs : List CL}, Cls H ts cs → ts.length = cs.length
  | _, _, .nil => rfl
  | _, _, .cons _ r => by rw [List.length_cons, List.length_cons, r.len]
/-- what is written where no tuple stands -/
theorem ClA.off {H : Hp} {t p : Addr} {c : CL} {o : HO} (h : ClA H t c) (hp : ∀ xs, H p ≠ some (.tup xs)) : ClA (upd H p o) t c := by
  obtain ⟨t2, h1, h2⟩ := h
  exact ⟨t2, by rw [upd_ne fun z => hp _ (z ▸ h1)]; exact h1, by rw [upd_ne fun z => hp _ (z ▸ h2)]; exact h2⟩
theorem Cls.off {H : Hp} {p : Addr} {o : HO} (hp : ∀ xs, H p ≠ some (.tup xs)) : ∀ {ts : List Addr} {cs : List CL}, Cls H ts cs → Cls (upd H p o) ts cs
  | _, _, .nil => .nil
  | _, _, .cons h r => .cons (h.off hp) (r.off hp)
/-- rows of keys that are clauses -/
theorem rows_cls {H : Hp} : ∀ N : List Row, (∀ m ∈ N, ∃ c, m.2 = keyC c ∧ ClA H m.1 c) → ∃ cs, Cls H (N.map (·.1)) cs ∧ cs.map keyC = N.map (·.2)
  | [], _ => ⟨[], .nil, rfl⟩
  | m :: N, h => by
    obtain ⟨c, e, a⟩ := h m List.mem_cons_self
    obtain ⟨cs, r1, r2⟩ := rows_cls N fun u hu => h u (List.mem_cons_of_mem _ hu)
    exact ⟨c :: cs, .cons a r1, by rw [List.map_cons, List.map_cons, r2, e]⟩
theorem lined_cls {N : List Row} (h : ∀ m ∈ N, ∃ c, m.2 = keyC c) : Lined 2 N := by
  refine ⟨.inr (.inl rfl), fun m hm => ?_, fun m hm m' hm' => ?_⟩
  · obtain ⟨c, e⟩ := h m hm
    exact ⟨_, _, e, rfl⟩
  · obtain ⟨c, e⟩ := h m hm
    obtain ⟨c', e'⟩ := h m' hm'
    rw [e, e']
    exact ok_clauses c c'
/-! ### a plain question -/
structure PQ where
  cls : List CL
  asked : List Str
def PlA (H : Hp) (d : Addr) (q : PQ) : Prop := ∃ lc la ts, H d = some (.dK [(.inr "clauses", .ref lc), (.inr "asked", .ref la)]) ∧ H lc = some (.lst (ts.map V.ref)) ∧ Cls H ts q.cls ∧ H la = some (.lst (q.asked.map V.str))
theorem PlA.same {H H' : Hp} {d : Addr} {q : PQ} (h : PlA H d q) (s : Same H H') : PlA H' d q := by
  obtain ⟨lc, la, ts, h1, h2, h3, h4⟩ := h
  exact ⟨lc, la, ts, s _ _ h1, s _ _ h2, h3.same s, s _ _ h4⟩
/-- what a clause is made of: a table, and a text or a tuple of columns -/
def InA (H : Hp) (t : Addr) (c : CL) : Prop := ∃ x, H t = some (.tup [.str c.1, x]) ∧ ((∃ z : Str, x = .str z ∧ c.2 = lettersOf z ∧ z.cps.size ≤ 1000) ∨ ∃ t2, x = .ref t2 ∧ H t2 = some (.tup (c.2.map V.str)))
theorem InA.same {H H' : Hp} {t : Addr} {c : CL} (h : InA H t c) (s : Same H H') : InA H' t c := by
  obtain ⟨x, h1, h2⟩ := h
  exact ⟨x, s _ _ h1, h2.imp id fun ⟨t2, e, z⟩ => ⟨t2, e, s _ _ z⟩⟩
inductive Ins (H : Hp) : List Addr → List CL → Prop
  | nil : Ins H [] []
  | cons {t : Addr} {c : CL} {ts : List Addr} {cs : List CL} : InA H t c → Ins H ts cs → Ins H (t :: ts) (c :: cs)
theorem Ins.at_ {H : Hp} : ∀ {ts : List Addr} {cs : List CL}, Ins H ts cs → ∀ (i : Nat) (h : i < ts.length), ∃ c, cs[i]? = some c ∧ InA H ts[i] c
  | _, _, .nil, i, h => absurd h (Nat.not_lt_zero _)
  | _, _, .cons (c := c) a r, i, h => by
    cases i with
    | zero => exact ⟨c, rfl, a⟩
    | succ i => exact r.at_ i (Nat.lt_of_succ_lt_succ h)
theorem Ins.len {H : Hp} : ∀ {ts : List Addr} {cs : List CL}, Ins H ts cs → ts.length = cs.length
  | _, _, .nil => rfl
  | _, _, .cons _ r => by rw [List.length_cons, List.length_cons, r.len]
theorem Cls.ins {H : Hp} : ∀ {ts : List Addr} {cs : List CL}, Cls H ts cs → Ins H ts cs
  | _, _, .nil => .nil
  | _, _, .cons ⟨t2, h1, h2⟩ r => .cons ⟨_, h1, .inr ⟨t2, rfl, h2⟩⟩ r.ins
/-- rows made one by one -/
theorem rows_made {H : Hp} {D : Addr} : ∀ (acc : List V) (cs : List CL), acc.length = cs.length → (∀ (i : Nat) (y : V), acc[i]? = some y → ∃ (t t2 : Addr) (c : CL), y = V.ref t ∧ cs[i]? = some c ∧ t ≠ D ∧ t2 ≠ D ∧ H t = some (.tup [.str c.1, .ref t2]) ∧ H t2 = some (.tup (c.2.map V.str))) →
    ∃ N : List Row, acc = N.map (fun m => V.ref m.1) ∧ N.map (·.2) = cs.map keyC ∧ ∀ m ∈ N, ∃ c, m.2 = keyC c ∧ ClA H m.1 c
  | [], [], _, _ => ⟨[], rfl, rfl, fun m z => by cases z⟩
  | [], _ :: _, e, _ => by cases e
  | _ :: _, [], e, _ => by cases e
  | y :: acc, c :: cs, e, h => by
    obtain ⟨t, t2, c', rfl, hc, _, _, h1, h2⟩ := h 0 y rfl
    obtain rfl : c = c' := Option.some.inj hc
    obtain ⟨N, n1, n2, n3⟩ := rows_made acc cs (Nat.succ.inj e) fun i u hu => h (i + 1) u hu
    refine ⟨(t, keyC c) :: N, by rw [List.map_cons, ← n1], by rw [List.map_cons, List.map_cons, n2], fun m hm => ?_⟩
    rcases List.mem_cons.mp hm with z | z
    · rw [z]
      exact ⟨c, rfl, t2, h1, h2⟩
    · exact n3 m z
theorem pair_map {cs : List CL} (h : (cs.map keyC).Pairwise fun k k' => ltK k k' = true) : cs.Pairwise fun c c' => ltC c c' = true := List.pairwise_map.mp h
abbrev sQuest : Stmt := top 35
def spQuest : Sp := fun vs H Q _ => ∃ (a b : Addr) (ts : List Addr) (cs : List CL) (as : List Str), vs = [.ref a, .ref b] ∧ H a = some (.lst (ts.map V.ref)) ∧ Ins H ts cs ∧ H b = some (.lst (as.map V.str)) ∧ ts.length < 64 ∧
  ∀ cs' H' d, Same H H' → H d = none → PlA H' d ⟨cs', as⟩ → cs'.Pairwise (fun c c' => ltC c c' = true) → (∀ c, c ∈ cs' ↔ c ∈ cs) → Q (.ref d) H'
structure TQ (K : PySem.W.Frag) (mg : Str → Option Value) : Prop where
  tup : mg "tuple" = none
  srt : mg "sorted" = none
  set : mg "set" = none
  list : mg "list" = none
section
variable {P : Program} {w : World} {K : PySem.W.Frag} {mg : Str → Option Value} {base : Heap}
abbrev nQuest : List Str := ["_law_clauses", "_law_asked_here", "_law_table", "_law_columns_here"]
theorem scQuest : FnScope nQuest ["_law_clauses", "_law_asked_here"] (defScope sQuest) := ⟨rfl, rfl, rfl, by decide +kernel, rfl, by decide +kernel, by decide +kernel⟩
theorem ok_quest {f : Addr} {fd : FuncData} (F : Fun K "_law_question" "_law_question" sQuest f fd) (T : TQ K mg) : FnOk P w K mg base CX0 1 f fd ["_law_clauses", "_law_asked_here"] spQuest := by
  refine F.ok scQuest (fun vs H Q E h => ?_) (fun cdv A outer s H vs Q E hr h => ?_)
  · obtain ⟨a, b, ts, cs, as, rfl, _⟩ := h
    rfl
  · obtain ⟨a, b, ts, cs, as, rfl, ha, hin, hb, few, k⟩ := h
    refine ⟨_, pss_one (ps_ret (pe_disp (pps_cons pe_str (pe_callB (cr_sortSet rfl hr.units) (by rfl) T.srt (by decide +kernel) (pa_cons (pe_callTy (cr_setOf rfl hr.units) (by rfl) T.set (by decide +kernel) (pa_cons
        (pe_lc (own := [("_law_table", 2), ("_law_columns_here", 3)]) (g := gTup K 2 (gCons (gName 2) (gCons (gName 3) gNil))) (tt := tYes) rfl scQuest.nd (pi_list (pv 0))
          (blkOk_by (own := [("_law_table", 2), ("_law_columns_here", 3)]) (N := nQuest) (sc := defScope sQuest) (by decide +kernel))
          (fun _ _ _ _ _ => pg_tup rfl (pgs_cons (pg_name (i := 2) scQuest.nd rfl (Or.inl rfl)) (pgs_cons (pg_name (i := 3) scQuest.nd rfl (Or.inl rfl)) pgs_nil))) (fun _ _ _ _ _ => pts_nil)
          (fun _ _ _ _ _ => pe_tup (pa_cons (pv 2) (pa_cons (pe_callTy (T := "tuple") (r := rTupX K) (cr_tupX rfl) (by rfl) T.tup (by decide +kernel) (pa_cons (pv 3) pa_nil)) pa_nil)))) pa_nil)) pa_nil))
        (pps_cons pe_str (pe_callTy call_list_of (by rfl) T.list (by decide +kernel) (pa_cons (pv 1) pa_nil)) pps_nil)) rfl rfl (by decide) (by decide))), ?_⟩
    intro p hp
    have hap : a ≠ p := ne_of_none ha hp
    have s0 : Same H (upd H p (.dK [])) := K0.Same.new _ hp
    have hin0 := hin
    refine ⟨_, rfl, a, rfl, ⟨_, SqL.of (s0 _ _ ha)⟩, fun D hD => lc_made (walk_list (K := K) (a := a) (xs := ts.map V.ref)) (fun i y H' => ∃ t t2 c, y = V.ref t ∧ cs[i]? = some c ∧ t ≠ D ∧ t2 ≠ D ∧ H' t = some (.tup [.str c.1, .ref t2]) ∧ H' t2 = some (.tup (c.2.map V.str)))
      (fun i y H1 H2 ⟨t, t2, c, e1, e2, n1, n2, h1, h2⟩ kd => ⟨t, t2, c, e1, e2, n1, n2, kd _ _ n1 h1, kd _ _ n2 h2⟩) (by rw [List.length_map, sizeLine_eq]; omega) hD (fun H1 s1 => SqL.of (s1 _ _ (s0 _ _ ha))) ?_ gPair_mono ?_⟩
    · rintro i x H1 H2 hi s1 ⟨acc, hacc⟩ ⟨rfl, hxi⟩
      have hi' : i < ts.length := by rwa [List.length_map] at hi
      obtain ⟨c, hc, x0, h1, h2⟩ := hin.at_ i hi'
      have ex : x = V.ref ts[i] := by
        rw [List.getElem?_map, List.getElem?_eq_getElem hi'] at hxi
        exact (Option.some.inj hxi).symm
      subst ex
      have g1 := s1 _ _ (s0 _ _ h1)
      refine ⟨ts[i], _, rfl, SqT.of g1, rfl, _, _, rfl, _, _, rfl, rfl, rfl, fun Q2 hQ2 => ⟨_, rfl, _, rfl, ?_⟩⟩
      rcases h2 with ⟨z, rfl, e, hz⟩ | ⟨t2, rfl, h2⟩
      · refine .inl ⟨z, rfl, hz, fun t2 ht2 => ⟨by show 2 ≤ sizeLine; decide, fun t ht => ?_⟩⟩
        have n2 : t2 ≠ D := fun z => by rw [z, hacc] at ht2; cases ht2
        have ht' : H2 t = none := by
          by_cases q : t = t2
          · rw [q]; exact ht2
          · rw [upd_ne q] at ht; exact ht
        have n1 : t ≠ D := fun z => by rw [z, hacc] at ht'; cases ht'
        have n3 : t2 ≠ t := fun q => by rw [q, upd_same] at ht; cases ht
        refine hQ2 _ _ (K0.Same.tr (K0.Same.new _ ht2) (K0.Same.new _ ht)) ⟨t, t2, c, rfl, hc, n1, n2, upd_same, ?_⟩
        rw [upd_ne n3, upd_same, e]
      · have g2 := s1 _ _ (s0 _ _ h2)
        refine .inr ⟨t2, _, rfl, SqT.of g2, by show 2 ≤ sizeLine; decide, fun t ht => ?_⟩
        have n1 : t ≠ D := fun z => by rw [z, hacc] at ht; cases ht
        have n2 : t2 ≠ D := fun z => by
          have q := s0 _ _ h2
          rw [z, hD] at q
          cases q
        exact hQ2 _ _ (K0.Same.new _ ht) ⟨t, t2, c, rfl, hc, n1, n2, upd_same, K0.Same.new _ ht _ _ g2⟩
    · rintro H1 acc s1 hD1 hlen hR
      rw [List.length_map] at hlen
      have lc : ts.length = cs.length := hin.len
      obtain ⟨N, rfl, n2, n3⟩ := rows_made acc cs (hlen.trans lc) hR
      rw [List.length_map] at hlen
      refine ⟨D, N, rfl, SqL.of hD1, fun m hm => ?_, by omega, fun S M hS sub all nd => ?_⟩
      · obtain ⟨c, e, h⟩ := n3 m hm
        have z := h.kr (K := K)
        rw [← e] at z
        exact z
      have sS : Same H1 (upd H1 S (SetN w S M)) := K0.Same.new _ hS
      have mem : ∀ m ∈ M, ∃ c, m.2 = keyC c ∧ ClA H1 m.1 c := fun m hm => n3 m (sub m hm)
      refine ⟨S, M, 2, rfl, upd_same, fun m hm => ?_, lined_cls fun m hm => ?_, fun M' q pm pw hq => ?_⟩
      · obtain ⟨c, e, h⟩ := mem m hm
        have z := (h.same sS).kr (K := K)
        rw [← e] at z
        exact z
      · obtain ⟨c, e, _⟩ := mem m hm
        exact ⟨c, e⟩
      have sQ : Same (upd H1 S (SetN w S M)) (upd (upd H1 S (SetN w S M)) q (.lst (M'.map fun m => V.ref m.1))) := K0.Same.new _ hq
      obtain ⟨cs', r1, r2⟩ := rows_cls (H := H1) M' fun m hm => mem m (pm.mem_iff.mp hm)
      have hb1 : upd (upd H1 S (SetN w S M)) q (.lst (M'.map fun m => V.ref m.1)) b = some (.lst (as.map V.str)) := sQ _ _ (sS _ _ (s1 _ _ (s0 _ _ hb)))
      refine ⟨_, rfl, b, _, rfl, .inl (SqL.of hb1), fun la hla => ?_⟩
      have sL := K0.Same.new (.lst (as.map V.str)) hla
      have sAll := K0.Same.tr s1 (K0.Same.tr sS (K0.Same.tr sQ sL))
      refine ⟨sAll _ _ upd_same, [(Sum.inr "clauses", .ref q), (Sum.inr "asked", .ref la)], rfl, by show 2 ≤ 15; decide, ?_⟩
      have qp : q ≠ p := fun z => by
        have y := sS _ _ (s1 _ _ (upd_same (H := H) (a := p) (o := .dK [])))
        rw [← z] at y
        have e : some (HO.dK []) = none := y.symm.trans hq
        cases e
      have lp : la ≠ p := fun z => by
        have y := sQ _ _ (sS _ _ (s1 _ _ (upd_same (H := H) (a := p) (o := .dK []))))
        rw [← z] at y
        have e : some (HO.dK []) = none := y.symm.trans hla
        cases e
      refine k cs' _ p (fun c o e => ?_) hp ⟨q, la, M'.map (·.1), upd_same, ?_, ?_, ?_⟩ ?_ fun c => ?_
      · rw [upd_ne (ne_of_none e hp)]
        exact sAll _ _ (s0 _ _ e)
      · rw [upd_ne qp, List.map_map]
        exact sL _ _ upd_same
      · refine (r1.same (K0.Same.tr sS (K0.Same.tr sQ sL))).off fun xs z => ?_
        rw [sAll _ _ upd_same] at z
        cases z
      · rw [upd_ne lp, upd_same]
      · refine pair_map ?_
        rw [r2]
        exact List.pairwise_map.mpr pw
      · have key : keyC c ∈ cs'.map keyC ↔ keyC c ∈ cs.map keyC := by
          rw [r2, ← n2, (pm.map (·.2)).mem_iff]
          constructor
          · intro z
            obtain ⟨m, hm, e⟩ := List.mem_map.mp z
            exact List.mem_map.mpr ⟨m, sub m hm, e⟩
          · intro z
            obtain ⟨m, hm, e⟩ := List.mem_map.mp z
            rw [← e]
            exact all m hm
        have inj : ∀ l : List CL, c ∈ l ↔ keyC c ∈ l.map keyC := fun l => ⟨fun z => List.mem_map.mpr ⟨c, z, rfl⟩, fun z => by
          obtain ⟨c', hc', e⟩ := List.mem_map.mp z
          rw [← keyC_inj e]
          exact hc'⟩
        rw [inj cs', inj cs]
        exact key

end
end K0

/-! ## Q2 -/
set_option maxRecDepth 100000
set_option maxHeartbeats 2000000
namespace K0
open PySem L2 NS
/-! ### names, columns, asking -/
def names16 : List Str := ["a", "b", "c", "d", "e", "f", "g", "h", "x", "y", "clause", "asked", "row", "zz", "zzzzzzzz", "ab"]
abbrev sNames : Stmt := top 40
abbrev sCols : Stmt := top 37
abbrev sAsking : Stmt := top 42
def spNames : Sp := fun vs H Q _ => vs = [] ∧ ∀ l, H l = none → Q (.ref l) (upd H l (.lst (names16.map V.str)))
def colsIn (cs : List CL) : List Str := cs.flatMap (·.2)
/-- these texts, ascending, each once -/
def IsCols (xs ns : List Str) : Prop := PyProof.Rows.sortedS ns = true ∧ ns.Nodup ∧ ∀ k, k ∈ ns ↔ k ∈ xs
def spCols : Sp := fun vs H Q _ => ∃ (d : Addr) (q : PQ), vs = [.ref d] ∧ PlA H d q ∧ (colsIn q.cls).length < 64 ∧ ∀ ns l H', IsCols (colsIn q.cls) ns → Same H H' → H l = none → H' l = some (.lst (ns.map V.str)) → Q (.ref l) H'
theorem Cls.at_ {H : Hp} : ∀ {ts : List Addr} {cs : List CL}, Cls H ts cs → ∀ (i : Nat) (h : i < ts.length), ∃ c, cs[i]? = some c ∧ ClA H ts[i] c
  | _, _, .nil, i, h => absurd h (Nat.not_lt_zero _)
  | _, _, .cons (c := c) a r, i, h => by
    cases i with
    | zero => exact ⟨c, rfl, a⟩
    | succ i => exact r.at_ i (Nat.lt_of_succ_lt_succ h)
theorem colsIn_take : ∀ (cs : List CL) (i : Nat) (c : CL), cs[i]? = some c → colsIn (cs.take (i + 1)) = colsIn (cs.take i) ++ c.2
  | [], _, _, h => by cases h
  | x :: cs, 0, c, h => by
    obtain rfl : x = c := Option.some.inj h
    simp [colsIn]
  | x :: cs, i + 1, c, h => by
    have ih := colsIn_take cs i c h
    unfold colsIn at ih ⊢
    rw [List.take_succ_cons, List.take_succ_cons, List.flatMap_cons, List.flatMap_cons, ih, List.append_assoc]
theorem colsIn_le : ∀ (cs : List CL) (i : Nat), (colsIn (cs.take i)).length ≤ (colsIn cs).length
  | [], _ => by simp [colsIn]
  | x :: cs, 0 => by simp [colsIn]
  | x :: cs, i + 1 => by
    have ih := colsIn_le cs i
    unfold colsIn at ih ⊢
    rw [List.take_succ_cons, List.flatMap_cons, List.flatMap_cons, List.length_append, List.length_append]
    omega
theorem strs_map_perm : ∀ {ys : List V} {ns : List Str}, ys.Perm (ns.map V.str) → ∃ zs : List Str, ys = zs.map V.str ∧ zs.Perm ns := by
  intro ys
  induction ys with
  | nil =>
    intro ns h
    have e : ns = [] := List.map_eq_nil_iff.mp h.symm.eq_nil
    exact ⟨[], rfl, by rw [e]⟩
  | cons y ys ih =>
    intro ns h
    obtain ⟨z, hz, rfl⟩ := List.mem_map.mp (h.mem_iff.mp List.mem_cons_self)
    obtain ⟨l1, l2, rfl⟩ := List.append_of_mem hz
    have h2 : (V.str z :: ys).Perm (V.str z :: (l1 ++ l2).map V.str) := h.trans (by rw [List.map_append, List.map_cons, List.map_append]; exact List.perm_middle)
    obtain ⟨zs, rfl, pz⟩ := ih (h2.cons_inv)
    exact ⟨z :: zs, rfl, (pz.cons z).trans List.perm_middle.symm⟩
theorem nodup_le {α : Type} [DecidableEq α] : ∀ (l m : List α), l.Nodup → (∀ x ∈ l, x ∈ m) → l.length ≤ m.length
  | [], _, _, _ => Nat.zero_le _
  | x :: l, m, n, h => by
    obtain ⟨n1, n2⟩ := List.nodup_cons.mp n
    have hx := h x List.mem_cons_self
    have r := nodup_le l (m.erase x) n2 fun y hy => (List.mem_erase_of_ne (fun e => n1 (by rw [← e]; exact hy))).mpr (h y (List.mem_cons_of_mem _ hy))
    rw [List.length_erase_of_mem hx] at r
    have : 0 < m.length := List.length_pos_of_mem hx
    rw [List.length_cons]
    omega
theorem colsIn_few {cs : List CL} {k : Nat} (h : ∀ c ∈ cs, c.2.length ≤ k) : (colsIn cs).length ≤ cs.length * k := by
  induction cs with
  | nil => simp [colsIn]
  | cons c cs ih =>
    have r := ih fun u hu => h u (List.mem_cons_of_mem _ hu)
    have z := h c List.mem_cons_self
    unfold colsIn at r ⊢
    rw [List.flatMap_cons, List.length_append, List.length_cons, Nat.add_mul, Nat.one_mul]
    omega
theorem pair_nodup {cs : List CL} (h : cs.Pairwise fun c c' => ltC c c' = true) : cs.Nodup := h.imp fun {a b} r e => by
  rw [e, ltC_irr] at r
  cases r
/-- a plain question stays where the dice are rolled -/
theorem dice_ne {H : Hp} {p a : Addr} {xs : List V} (hp : DiceAt H p) (ha : H a = some (.lst xs)) (h : ∀ i : Int, V.int i ∉ xs) : a ≠ p := fun e => by
  obtain ⟨x, y, z, q⟩ := hp
  rw [← e, ha] at q
  injection q with q
  injection q with q
  exact h x (by rw [q]; exact List.mem_cons_self)
theorem ClA.kd {H H' : Hp} {t p : Addr} {c : CL} (h : ClA H t c) (hp : DiceAt H p) (k : Kd p H H') : ClA H' t c := by
  obtain ⟨t2, h1, h2⟩ := h
  obtain ⟨x, y, z, q⟩ := hp
  exact ⟨t2, k _ _ (fun e => by rw [e, q] at h1; cases h1) h1, k _ _ (fun e => by rw [e, q] at h2; cases h2) h2⟩
theorem Cls.kd {H H' : Hp} {p : Addr} (hp : DiceAt H p) (k : Kd p H H') : ∀ {ts : List Addr} {cs : List CL}, Cls H ts cs → Cls H' ts cs
  | _, _, .nil => .nil
  | _, _, .cons h r => .cons (h.kd hp k) (r.kd hp k)
theorem PlA.kd {H H' : Hp} {d p : Addr} {q : PQ} (h : PlA H d q) (hp : DiceAt H p) (k : Kd p H H') : PlA H' d q := by
  obtain ⟨lc, la, ts, h1, h2, h3, h4⟩ := h
  refine ⟨lc, la, ts, k _ _ (fun e => ?_) h1, k _ _ (dice_ne hp h2 fun i m => ?_) h2, h3.kd hp k, k _ _ (dice_ne hp h4 fun i m => ?_) h4⟩
  · obtain ⟨x, y, z, q⟩ := hp
    rw [e, q] at h1
    cases h1
  · obtain ⟨t, _, e⟩ := List.mem_map.mp m
    cases e
  · obtain ⟨t, _, e⟩ := List.mem_map.mp m
    cases e
theorem none_back {H H' : Hp} {m : Addr} (s : Same H H') (h : H' m = none) : H m = none := by
  cases e : H m with
  | none => rfl
  | some o =>
    rw [s _ _ e] at h
    cases h
theorem lt1 {u : Nat} (h : u + 64 < cLine) : u + 1 < cLine := by omega
structure TA (K : PySem.W.Frag) (mg : Str → Option Value) : Prop extends TQ K mg where
  len : mg "len" = none
section
variable {P : Program} {w : World} {K : PySem.W.Frag} {mg : Str → Option Value} {base : Heap}
theorem scNames : FnScope [] [] (defScope sNames) := ⟨rfl, rfl, rfl, by decide +kernel, rfl, by decide +kernel, by decide +kernel⟩
theorem ok_names {f : Addr} {fd : FuncData} (F : Fun K "_law_names" "_law_names" sNames f fd) : FnOk P w K mg base CX0 1 f fd [] spNames := by
  refine F.ok scNames (fun vs H Q E h => ?_) (fun cdv A outer s H vs Q E hr h => ?_)
  · obtain ⟨rfl, _⟩ := h
    rfl
  · obtain ⟨rfl, k⟩ := h
    refine ⟨_, pss_one (ps_ret (pe_lst (pa_cons pe_str (pa_cons pe_str (pa_cons pe_str (pa_cons pe_str (pa_cons pe_str (pa_cons pe_str (pa_cons pe_str (pa_cons pe_str (pa_cons pe_str (pa_cons pe_str (pa_cons pe_str (pa_cons pe_str (pa_cons pe_str (pa_cons pe_str (pa_cons pe_str (pa_cons pe_str pa_nil)))))))))))))))))), ?_⟩
    exact ⟨by show 16 ≤ sizeLine; decide, fun p hp => k p hp⟩
abbrev nCols : List Str := ["_law_plain", "_law_found", "_law_table", "_law_columns_here"]
theorem scCols : FnScope nCols ["_law_plain"] (defScope sCols) := ⟨rfl, rfl, rfl, by decide +kernel, rfl, by decide +kernel, by decide +kernel⟩
theorem ok_cols {f : Addr} {fd : FuncData} (F : Fun K "_law_columns" "_law_columns" sCols f fd) (T : TA K mg) : FnOk P w K mg base CX0 1 f fd ["_law_plain"] spCols := by
  refine F.ok scCols (fun vs H Q E h => ?_) (fun cdv A outer s H vs Q E hr h => ?_)
  · obtain ⟨d, q, rfl, _⟩ := h
    rfl
  · obtain ⟨d, q, rfl, hd, few, k⟩ := h
    refine ⟨_, pss_cons (ps_set (i := 1) scCols.nd rfl (Or.inl rfl) (pe_lst pa_nil))
      (pss_cons (ps_for PassesOwn.never rfl (pi_list (pe_dget (lt1 hr.units) (pv 0) pe_str (fun _ _ => rfl))) (pg_tup rfl (pgs_cons (pg_name (i := 2) scCols.nd rfl (Or.inl rfl)) (pgs_cons (pg_name (i := 3) scCols.nd rfl (Or.inl rfl)) pgs_nil)))
        (pss_one (ps_expr (pe_bm PySem.F.plainAttrs_list PySem.F.slot_list_extend PySem.F.type_list_extend mt_extend (pv 1) (pa_cons (pe_callTy call_list_of (by rfl) T.list (by decide +kernel) (pa_cons (pv 3) pa_nil)) pa_nil)))))
      (pss_one (ps_ret (pe_callB (cr_sortTx rfl) (by rfl) T.srt (by decide +kernel) (pa_cons (pe_callTy (cr_setTx rfl) (by rfl) T.set (by decide +kernel) (pa_cons (pv 1) pa_nil)) pa_nil))))), ?_⟩
    obtain ⟨lc, la, ts, h1, h2, h3, h4⟩ := hd
    refine ⟨by show 0 ≤ sizeLine; decide, fun l hl => ?_⟩
    have s0 : Same H (upd H l (.lst [])) := K0.Same.new _ hl
    refine ⟨_, rfl, d, V.ref lc, rfl, DGet.k (k := Sum.inr "clauses") (s0 _ _ h1), lc, rfl, ⟨_, SqL.of (s0 _ _ h2)⟩,
      for_list (K := K) (a := lc) (xs := ts.map V.ref) (fun i σ H' => (∃ u v, σ = [some (.ref d), some (.ref l), u, v]) ∧ Same H H' ∧ H' l = some (.lst ((colsIn (q.cls.take i)).map V.str)))
        ⟨⟨none, none, rfl⟩, s0, upd_same⟩ (fun i σ H' _ ⟨_, s1, _⟩ => SqL.of (s1 _ _ h2)) ?_ ?_⟩
    · rintro i x σ H1 hx ⟨⟨u, v, rfl⟩, s1, hq⟩
      rw [List.getElem?_map] at hx
      obtain ⟨t, ht, rfl⟩ := Option.map_eq_some_iff.mp hx
      obtain ⟨hi, et⟩ := List.getElem?_eq_some_iff.mp ht
      obtain ⟨c, hc, hA⟩ := h3.at_ i hi
      rw [et] at hA
      obtain ⟨t2, g1, g2⟩ := hA
      refine ⟨t, _, rfl, SqT.of (s1 _ _ g1), rfl, _, _, rfl, _, _, rfl, rfl, ?_⟩
      refine ⟨_, rfl, .inl ⟨rfl, _, SqL.of hq⟩, _, rfl, t2, _, rfl, .inr (SqT.of (s1 _ _ g2)), fun m hm => ?_⟩
      have ml : l ≠ m := ne_of_none hq hm
      have bound := colsIn_le q.cls (i + 1)
      rw [colsIn_take _ _ _ hc, List.length_append] at bound
      refine ⟨l, m, _, _, rfl, rfl, by rw [upd_ne ml]; exact hq, upd_same, ?_, ⟨_, _, rfl⟩, fun b o e => ?_, ?_⟩
      · rw [List.length_map, List.length_map, sizeLine_eq]
        omega
      · rw [upd_ne (ne_of_none e hl), upd_ne (ne_of_none (s1 _ _ e) hm)]
        exact s1 _ _ e
      · rw [upd_same, colsIn_take _ _ _ hc, List.map_append]
    · rintro σ H1 ⟨⟨u, v, rfl⟩, s1, hq⟩
      rw [List.length_map, h3.len, List.take_length] at hq
      refine ⟨_, rfl, l, _, rfl, .inr (SqL.of hq), by omega, fun p n hn hp => ⟨p, _, n, rfl, upd_same, by omega, fun ns m g1 g2 g3 g4 hm => ?_⟩⟩
      have sp := K0.Same.new (SetTO w p (fun j => decide (j ∈ colsIn q.cls)) n) hp
      refine k ns m _ ⟨g1, g2, fun j => by rw [g3, decide_eq_true_eq]⟩ (K0.Same.tr s1 (K0.Same.tr sp (K0.Same.new _ hm))) ?_ upd_same
      exact none_back s1 (none_back sp hm)
end
end K0

/-! ## Q3 -/
set_option maxRecDepth 100000
set_option maxHeartbeats 2000000
namespace K0
open PySem L2 NS
/-- a def of the text by its name -/
structure Gl (K : PySem.W.Frag) (mg : Str → Option Value) (n : Str) (f : Addr) : Prop where
  g : mg n = some (.ref f)
  k : PySem.W.keepIn K (.ref f) = true
def spAsking : Sp := fun vs H Q _ => ∃ (p a : Addr) (ts : List Addr) (cs : List CL) (sh : Int), vs = [.ref p, .ref a, .int sh] ∧ DiceAt H p ∧ H a = some (.lst (ts.map V.ref)) ∧ Ins H ts cs ∧ ts.length ≤ 7 ∧ (∀ c ∈ cs, c.2.length ≤ 8) ∧
  ∀ (cs' : List CL) (as : List Str) (H' : Hp) (d : Addr), Kd p H H' → DiceAt H' p → H d = none → PlA H' d ⟨cs', as⟩ → cs'.Pairwise (fun c c' => ltC c c' = true) → (∀ c, c ∈ cs' ↔ c ∈ cs) → as.Nodup → (∀ k ∈ as, k ∈ colsIn cs') → Q (.ref d) H'
theorem InA.same' {H H' : Hp} {t : Addr} {c : CL} (h : InA H t c) (s : Same H H') : InA H' t c := h.same s
theorem Ins.same {H H' : Hp} (s : Same H H') : ∀ {ts : List Addr} {cs : List CL}, Ins H ts cs → Ins H' ts cs
  | _, _, .nil => .nil
  | _, _, .cons h r => .cons (h.same s) (r.same s)
theorem DiceAt.same {H H' : Hp} {p : Addr} (h : DiceAt H p) (s : Same H H') : DiceAt H' p := by
  obtain ⟨x, y, z, e⟩ := h
  exact ⟨x, y, z, s _ _ e⟩
theorem DiceAt.up {H : Hp} {p a : Addr} {o : HO} (h : DiceAt H p) (n : p ≠ a) : DiceAt (upd H a o) p := by
  obtain ⟨x, y, z, e⟩ := h
  exact ⟨x, y, z, by rw [upd_ne n]; exact e⟩
theorem cutV_take (xs : List Str) (r : Int) (h0 : 0 ≤ r) (h1 : r ≤ xs.length) : cutV (xs.map V.str) none (some r) = (xs.take r.toNat).map V.str := by
  unfold cutV
  obtain ⟨n, rfl⟩ := Int.eq_ofNat_of_zero_le h0
  rw [HT.sIx_none]
  have e : HT.sIx (xs.map V.str).length (xs.map V.str).length (some (n : Int)) = n := by
    have z := HT.sIx_nat (xs.map V.str).length (xs.map V.str).length n
    rw [List.length_map] at z ⊢
    refine z.trans ?_
    have : (n : Int) ≤ xs.length := h1
    omega
  rw [List.drop_zero, Nat.sub_zero]
  have e2 : ((n : Int).toNat) = n := rfl
  rw [e2, List.map_take]
  exact congrArg (fun k => (xs.map V.str).take k) e
/-- the asked columns are stored -/
theorem PlA.ask {H : Hp} {d l : Addr} {cs : List CL} {as bs : List Str} (h : PlA H d ⟨cs, as⟩) (hl : H l = some (.lst (bs.map V.str))) : ∃ kvs, H d = some (.dK kvs) ∧ kvs.length < sizeLine ∧ PlA (upd H d (.dK (putK kvs (Sum.inr "asked") (.ref l)))) d ⟨cs, bs⟩ := by
  obtain ⟨lc, la, ts, h1, h2, h3, h4⟩ := h
  refine ⟨_, h1, by show 2 < sizeLine; rw [sizeLine_eq]; decide, lc, l, ts, upd_same, ?_, h3.off fun xs z => ?_, ?_⟩
  · rw [upd_ne fun z => by rw [z, h1] at h2; cases h2]
    exact h2
  · rw [h1] at z
    cases z
  · rw [upd_ne fun z => by rw [z, h1] at hl; cases hl]
    exact hl
section
variable {P : Program} {w : World} {K : PySem.W.Frag} {mg : Str → Option Value} {base : Heap} {fQ fC fM fR : Addr} {fdQ fdC fdM fdR : FuncData}
abbrev nAsking : List Str := ["_law_dice_here", "_law_clauses", "_law_share", "_law_plain", "_law_some"]
theorem scAsking : FnScope nAsking ["_law_dice_here", "_law_clauses", "_law_share"] (defScope sAsking) := ⟨rfl, rfl, rfl, by decide +kernel, rfl, by decide +kernel, by decide +kernel⟩
theorem ok_asking {f : Addr} {fd : FuncData} (F : Fun K "_law_asking" "_law_asking" sAsking f fd) (T : TA K mg)
    (eQ : Gl K mg "_law_question" fQ) (GQ : FnOk P w K mg base CX0 1 fQ fdQ ["_law_clauses", "_law_asked_here"] spQuest) (bQ : Binds K fdQ ["_law_clauses", "_law_asked_here"] [])
    (eC : Gl K mg "_law_columns" fC) (GC : FnOk P w K mg base CX0 1 fC fdC ["_law_plain"] spCols) (bC : Binds K fdC ["_law_plain"] [])
    (eM : Gl K mg "_law_mixed" fM) (GM : FnOk P w K mg base CX0 2 fM fdM ["_law_dice_here", "_law_items"] spMixed) (bM : Binds K fdM ["_law_dice_here", "_law_items"] [])
    (eR : Gl K mg "_law_roll" fR) (GR : FnOk P w K mg base CX0 1 fR fdR ["_law_dice_here", "_law_total"] spRoll) (bR : Binds K fdR ["_law_dice_here", "_law_total"] []) :
    FnOk P w K mg base CX0 3 f fd ["_law_dice_here", "_law_clauses", "_law_share"] spAsking := by
  refine F.ok scAsking (fun vs H Q E h => ?_) (fun cdv A outer s H vs Q E hr h => ?_)
  · obtain ⟨p, a, ts, cs, sh, rfl, _⟩ := h
    rfl
  · obtain ⟨p, a, ts, cs, sh, rfl, hp, ha, hin, few, wide, k⟩ := h
    refine ⟨_, pss_cons (ps_set (i := 3) scAsking.nd rfl (Or.inl rfl) (pe_call GQ (hr.mono (by decide)) (by rfl) eQ.g eQ.k bQ .nil pass0 (pa_cons (pv 1) (pa_cons (pe_lst pa_nil) pa_nil))))
      (pss_cons (ps_if (pt_cmpR op_gt (pv 2) pe_int (nomark _))
        (pss_cons (ps_set (i := 4) scAsking.nd rfl (Or.inl rfl) (pe_call GM hr (by rfl) eM.g eM.k bM .nil pass0 (pa_cons (pv 0) (pa_cons (pe_call GC (hr.mono (by decide)) (by rfl) eC.g eC.k bC .nil pass0 (pa_cons (pv 3) pa_nil)) pa_nil))))
        (pss_one (ps_dput (lt1 hr.units) (pv 3) pe_str (pe_ifExp (pt_cmpR op_gt (pv 2) pe_int (nomark _)) (pv 4)
          (pe_slice sl_list (pv 4) po_none (po_some (pe_call GR (hr.mono (by decide)) (by rfl) eR.g eR.k bR .nil pass0 (pa_cons (pv 0) (pa_cons (pe_op op_add (pe_callB call_len_seq (by rfl) T.len PySem.boot_len (pa_cons (pv 4) pa_nil)) pe_int) pa_nil)))))) (by rfl)))) pss_nil)
      (pss_one (ps_ret (pv 3)))), ?_⟩
    refine ⟨_, rfl, by show 0 ≤ sizeLine; decide, fun b hb => ?_⟩
    have s0 : Same H (upd H b (.lst [])) := K0.Same.new _ hb
    refine ⟨a, b, ts, cs, [], rfl, s0 _ _ ha, hin.same s0, upd_same, by omega, fun cs' H1 d s1 hd pl pw mem => ?_⟩
    have s01 := K0.Same.tr s0 s1
    have hd0 : H d = none := none_back s0 hd
    have hp1 : DiceAt H1 p := hp.same s01
    have len' : cs'.length ≤ 7 := Nat.le_trans (nodup_le cs' cs (pair_nodup pw) fun c hc => (mem c).mp hc) (by rw [← hin.len]; exact few)
    have cfew : (colsIn cs').length < 64 := Nat.lt_of_le_of_lt (colsIn_few (k := 8) fun c hc => wide c ((mem c).mp hc)) (by omega)
    refine ⟨_, rfl, _, _, rfl, rfl, _, rfl, ?_⟩
    by_cases c : (0 : Int) < sh
    · refine if_pos_of (decide_eq_true c) ⟨_, rfl, _, rfl, d, _, rfl, pl, cfew, fun ns l H2 ic s2 hl el => ?_⟩
      have hp2 := hp1.same s2
      have lp : l ≠ p := dice_ne hp2 el fun i m => by
        obtain ⟨t, _, e⟩ := List.mem_map.mp m
        cases e
      have nlen : ns.length ≤ 64 := Nat.le_trans (nodup_le ns _ ic.2.1 fun z hz => (ic.2.2 z).mp hz) (Nat.le_of_lt cfew)
      refine ⟨p, l, _, rfl, hp2, lp, el, by rw [List.length_map]; omega, fun ys m H3 pm hm em kd3 hp3 => ?_⟩
      obtain ⟨zs, rfl, pz⟩ := strs_map_perm pm
      have pl3 : PlA H3 d ⟨cs', []⟩ := (pl.same s2).kd hp2 kd3
      have znd : zs.Nodup := pz.nodup_iff.mpr ic.2.1
      have zin : ∀ k ∈ zs, k ∈ colsIn cs' := fun k hk => (ic.2.2 k).mp (pz.mem_iff.mp hk)
      refine ⟨_, rfl, _, _, rfl, rfl, _, rfl, ?_⟩
      have dp : d ≠ p := fun e => by
        obtain ⟨x, y, z, q⟩ := hp
        rw [← e, hd0] at q
        cases q
      have fin : ∀ (as : List Str) (l2 : Addr) (H4 : Hp), Kd p H3 H4 → DiceAt H4 p → H4 l2 = some (.lst (as.map V.str)) → as.Nodup → (∀ k ∈ as, k ∈ colsIn cs') → PlA H4 d ⟨cs', []⟩ → ∃ kvs, H4 d = some (.dK kvs) ∧ kvs.length < sizeLine ∧ Q (.ref d) (upd H4 d (.dK (putK kvs (Sum.inr "asked") (.ref l2)))) := by
        intro as l2 H4 kd4 hp4 e4 nd4 in4 pl4
        obtain ⟨kvs, g1, g2, g3⟩ := pl4.ask e4
        refine ⟨kvs, g1, g2, k cs' as _ d (fun b' o nb e => ?_) (hp4.up dp.symm) hd0 g3 pw mem nd4 in4⟩
        rw [upd_ne (ne_of_none e hd0)]
        exact kd4 _ _ nb (kd3 _ _ nb (s2 _ _ (s01 _ _ e)))
      by_cases c2 : (1 : Int) < sh
      · obtain ⟨kvs, g1, g2, g3⟩ := fin zs m H3 Kd.rfl' hp3 em znd zin pl3
        exact if_pos_of (decide_eq_true c2) ⟨_, rfl, _, rfl, d, _, rfl, DPut.k (k := Sum.inr "asked") g1 g2, _, rfl, g3⟩
      · refine if_neg_of (decide_eq_false c2) ⟨_, rfl, _, rfl, _, rfl, m, _, rfl, .inl (SqL.of em), _, _, rfl, rfl, p, _, rfl, hp3, by rw [List.length_map]; omega, by rw [List.length_map, pz.length_eq]; omega, fun r H4 r0 r1 kd4 hp4 => ?_⟩
        have mp : m ≠ p := dice_ne hp3 em fun i mm => by
          obtain ⟨t, _, e⟩ := List.mem_map.mp mm
          cases e
        have em4 := kd4 _ _ mp em
        have pl4 := pl3.kd hp3 kd4
        refine ⟨r, rfl, m, _, rfl, SqL.of em4, fun l2 hl2 => ?_⟩
        have s5 := K0.Same.new (.lst (cutV (zs.map V.str) none (some r))) hl2
        rw [List.length_map] at r1
        have ecut := cutV_take zs r r0 (by omega)
        obtain ⟨kvs, g1, g2, g3⟩ := fin (zs.take r.toNat) l2 _ (Kd.tr kd4 (Kd.of s5)) (hp4.same s5) (by rw [upd_same, ecut]) (List.Nodup.sublist (List.take_sublist _ _) znd) (fun k hk => zin k (List.mem_of_mem_take hk)) (pl4.same s5)
        exact ⟨_, rfl, d, _, rfl, DPut.k (k := Sum.inr "asked") g1 g2, _, rfl, g3⟩
    · exact if_neg_of (decide_eq_false c) ⟨_, rfl, k cs' [] H1 d (Kd.of s01) hp1 hd0 pl pw mem .nil (fun z hz => by cases hz)⟩
end
end K0

/-! ## Q4 -/
set_option maxRecDepth 100000
set_option maxHeartbeats 2000000
namespace K0
open PySem L2 NS
/-! ### what is drawn -/
abbrev tabLine : Str := "rstuvwpq"
def tabs8 : List Str := lettersOf tabLine
structure GoodQ (cs : List CL) : Prop where
  some_ : cs ≠ []
  few : cs.length ≤ 7
  tab : ∀ c ∈ cs, c.1 ∈ tabs8
  wide : ∀ c ∈ cs, 0 < c.2.length ∧ c.2.length ≤ 8
  same : ∀ c ∈ cs, ∀ c' ∈ cs, c.1 = c'.1 → c.2.length = c'.2.length
  cols : ∃ pool : List Str, pool.length ≤ 8 ∧ (∀ k ∈ pool, k ∈ names16) ∧ ∀ c ∈ cs, ∀ k ∈ c.2, k ∈ pool
theorem GoodQ.of_mem {cs cs' : List CL} (g : GoodQ cs) (n : cs'.Nodup) (m : ∀ c, c ∈ cs' ↔ c ∈ cs) : GoodQ cs' where
  some_ e := g.some_ (List.eq_nil_iff_forall_not_mem.mpr fun c hc => by
    have z := (m c).mpr hc
    rw [e] at z
    cases z)
  few := Nat.le_trans (nodup_le cs' cs n fun c hc => (m c).mp hc) g.few
  tab c hc := g.tab c ((m c).mp hc)
  wide c hc := g.wide c ((m c).mp hc)
  same c hc c' hc' := g.same c ((m c).mp hc) c' ((m c').mp hc')
  cols := by
    obtain ⟨pool, p1, p2, p3⟩ := g.cols
    exact ⟨pool, p1, p2, fun c hc => p3 c ((m c).mp hc)⟩
structure GoodP (q : PQ) : Prop where
  cls : GoodQ q.cls
  up : q.cls.Pairwise fun c c' => ltC c c' = true
  nd : q.asked.Nodup
  ask : ∀ k ∈ q.asked, k ∈ colsIn q.cls
/-- any good plain question may come -/
def GiveQ (H : Hp) (p : Addr) (Q : VK) : Prop := ∀ (q : PQ) (H' : Hp) (d : Addr), GoodP q → Kd p H H' → DiceAt H' p → H d = none → PlA H' d q → Q (.ref d) H'
theorem none_kd {H H' : Hp} {p m : Addr} (hp : DiceAt H p) (hp' : DiceAt H' p) (k : Kd p H H') (h : H' m = none) : H m = none := by
  cases e : H m with
  | none => rfl
  | some o =>
    have n : m ≠ p := fun z => by
      obtain ⟨x, y, w, q⟩ := hp'
      rw [z, q] at h
      cases h
    rw [k _ _ n e] at h
    cases h
/-- a drawn list of clauses leads to a good question -/
theorem ask_good {H0 H : Hp} {p a : Addr} {ts : List Addr} {cs : List CL} {sh : Int} {Q : VK} {E : XK} (hp0 : DiceAt H0 p) (kd : Kd p H0 H) (hp : DiceAt H p) (ha : H a = some (.lst (ts.map V.ref))) (hin : Ins H ts cs) (g : GoodQ cs) (k : GiveQ H0 p Q) : spAsking [.ref p, .ref a, .int sh] H Q E :=
  ⟨p, a, ts, cs, sh, rfl, hp, ha, hin, by rw [hin.len]; exact g.few, fun c hc => (g.wide c hc).2, fun cs' as H' d kd' hp' hd pl pw mem nd hin' =>
    k ⟨cs', as⟩ H' d ⟨g.of_mem (pair_nodup pw) mem, pw, nd, hin'⟩ (kd.tr kd') hp' (none_kd hp0 hp kd hd) pl⟩
def spDrawn : Sp := fun vs H Q _ => ∃ (p : Addr) (most width : Int) (b : Bool), vs = [.ref p, .int most, .int width, .bl b] ∧ DiceAt H p ∧ 1 ≤ most ∧ most ≤ 7 ∧ 1 ≤ width ∧ width ≤ 8 ∧ GiveQ H p Q
theorem tab_nodup : tabs8.Nodup := by decide +kernel
theorem tab_len : tabs8.length = 8 := by decide +kernel
theorem tab_at {j : Nat} (h : j < 8) : ∃ c, tabLine.cps.toList[j]? = some c ∧ tabs8[j]? = some (⟨#[c]⟩ : Str) := by
  have hl : j < tabLine.cps.toList.length := by
    have e : tabLine.cps.toList.length = 8 := by decide +kernel
    omega
  refine ⟨_, List.getElem?_eq_getElem hl, ?_⟩
  show (lettersOf tabLine)[j]? = _
  unfold lettersOf
  rw [List.getElem?_map, List.getElem?_eq_getElem hl]
  rfl
/-- a clause with a width told by its table -/
def WideAs (ws : List V) (pool : List Str) (c : CL) : Prop := ∃ (j : Nat) (n : Int), tabs8[j]? = some c.1 ∧ ws[j]? = some (.int n) ∧ (c.2.length : Int) = n ∧ 1 ≤ n ∧ n ≤ 3 ∧ ∀ k ∈ c.2, k ∈ pool
theorem good_wide {ws : List V} {pool : List Str} {cs : List CL} (h0 : cs ≠ []) (h1 : cs.length ≤ 7) (hp : pool.length ≤ 8) (hn : ∀ k ∈ pool, k ∈ names16) (h : ∀ c ∈ cs, WideAs ws pool c) : GoodQ cs where
  some_ := h0
  few := h1
  tab c hc := by
    obtain ⟨j, n, e, _⟩ := h c hc
    exact List.mem_of_getElem? e
  wide c hc := by
    obtain ⟨j, n, _, _, e, e1, e2, _⟩ := h c hc
    omega
  same c hc c' hc' e := by
    obtain ⟨j, n, a1, a2, a3, _⟩ := h c hc
    obtain ⟨j', n', b1, b2, b3, _⟩ := h c' hc'
    rw [← e] at b1
    have jj : j = j' := by
      obtain ⟨l1, q1⟩ := List.getElem?_eq_some_iff.mp a1
      obtain ⟨l2, q2⟩ := List.getElem?_eq_some_iff.mp b1
      exact (List.getElem_inj tab_nodup).mp (q1.trans q2.symm)
    subst jj
    rw [a2] at b2
    injection b2 with b2
    injection b2 with b2
    omega
  cols := ⟨pool, hp, hn, fun c hc => by
    obtain ⟨j, n, _, _, _, _, _, z⟩ := h c hc
    exact z⟩
theorem strs_in : ∀ (acc : List V) (pool : List Str), (∀ y ∈ acc, ∃ z, y = V.str z ∧ z ∈ pool) → ∃ ys : List Str, acc = ys.map V.str ∧ ∀ k ∈ ys, k ∈ pool
  | [], _, _ => ⟨[], rfl, fun k h => by cases h⟩
  | y :: acc, pool, h => by
    obtain ⟨z, rfl, hz⟩ := h y List.mem_cons_self
    obtain ⟨ys, rfl, r⟩ := strs_in acc pool fun u hu => h u (List.mem_cons_of_mem _ hu)
    refine ⟨z :: ys, rfl, fun k hk => ?_⟩
    rcases List.mem_cons.mp hk with e | e
    · rw [e]
      exact hz
    · exact r k e
theorem Cls.snoc {H : Hp} {t : Addr} {c : CL} (h : ClA H t c) : ∀ {ts : List Addr} {cs : List CL}, Cls H ts cs → Cls H (ts ++ [t]) (cs ++ [c])
  | _, _, .nil => .cons h .nil
  | _, _, .cons g r => .cons g (r.snoc h)
theorem no_int (xs : List Str) : ∀ i : Int, V.int i ∉ xs.map V.str := fun i m => by
  obtain ⟨t, _, e⟩ := List.mem_map.mp m
  cases e
theorem no_intR (xs : List Addr) : ∀ i : Int, V.int i ∉ xs.map V.ref := fun i m => by
  obtain ⟨t, _, e⟩ := List.mem_map.mp m
  cases e
theorem if_tab {b : Bool} {Q : VK} {σ : L2.St} {H : Hp} {p : Addr} {i : Int} {E : XK} {t0 t7 : TE} (h7 : ∀ Q : VK, Q (.int i) H → t7 σ H Q) (h0 : ∀ Q : VK, Q (.ref p) H → t0 σ H Q) (hp : DiceAt H p) (i0 : 0 ≤ i) (i1 : i < 8)
    (all : ∀ (j : Int) (H8 : Hp), 0 ≤ j → j < 8 → Kd p H H8 → DiceAt H8 p → Q (.int j) H8) : if b = true then t7 σ H Q else tCall spRoll [] E (tCons t0 (tCons (tC (.int 3)) tNil)) σ H Q := by
  cases b with
  | true => exact if_pos_of rfl (h7 _ (all i H i0 i1 Kd.rfl' hp))
  | false => exact if_neg_of rfl (h0 _ ⟨p, 3, rfl, hp, by decide, by decide, fun r H8 r0 r1 kd hp8 => all r H8 r0 (by omega) kd hp8⟩)
abbrev sDrawn : Stmt := top 43
structure TD (K : PySem.W.Frag) (mg : Str → Option Value) : Prop extends TA K mg where
  range : mg "range" = none
/-- the law's own defs that draw -/
structure LD (P : Program) (w : World) (K : PySem.W.Frag) (mg : Str → Option Value) (base : Heap) (fR fP fM fN fA : Addr) (fdR fdP fdM fdN fdA : FuncData) : Prop where
  eR : Gl K mg "_law_roll" fR
  GR : FnOk P w K mg base CX0 1 fR fdR ["_law_dice_here", "_law_total"] spRoll
  bR : Binds K fdR ["_law_dice_here", "_law_total"] []
  eP : Gl K mg "_law_pick" fP
  GP : FnOk P w K mg base CX0 2 fP fdP ["_law_dice_here", "_law_items"] spPick
  bP : Binds K fdP ["_law_dice_here", "_law_items"] []
  eM : Gl K mg "_law_mixed" fM
  GM : FnOk P w K mg base CX0 2 fM fdM ["_law_dice_here", "_law_items"] spMixed
  bM : Binds K fdM ["_law_dice_here", "_law_items"] []
  eN : Gl K mg "_law_names" fN
  GN : FnOk P w K mg base CX0 1 fN fdN [] spNames
  bN : Binds K fdN [] []
  eA : Gl K mg "_law_asking" fA
  GA : FnOk P w K mg base CX0 3 fA fdA ["_law_dice_here", "_law_clauses", "_law_share"] spAsking
  bA : Binds K fdA ["_law_dice_here", "_law_clauses", "_law_share"] []
section
variable {P : Program} {w : World} {K : PySem.W.Frag} {mg : Str → Option Value} {base : Heap} {fR fP fM fN fA : Addr} {fdR fdP fdM fdN fdA : FuncData}
abbrev nDrawn : List Str := ["_law_dice_here", "_law_most", "_law_width", "_law_is_plain", "_law_names_here", "_law_widths_here", "_law_clauses", "_law_at", "_law_table", "_law_columns_here", "_law_turn"]
theorem scDrawn : FnScope nDrawn ["_law_dice_here", "_law_most", "_law_width", "_law_is_plain"] (defScope sDrawn) := ⟨rfl, rfl, rfl, by decide +kernel, rfl, by decide +kernel, by decide +kernel⟩
theorem ok_drawn {f : Addr} {fd : FuncData} (F : Fun K "_law_drawn" "_law_drawn" sDrawn f fd) (T : TD K mg) (L : LD P w K mg base fR fP fM fN fA fdR fdP fdM fdN fdA) :
    FnOk P w K mg base CX0 4 f fd ["_law_dice_here", "_law_most", "_law_width", "_law_is_plain"] spDrawn := by
  refine F.ok scDrawn (fun vs H Q E h => ?_) (fun cdv A outer s H vs Q E hr h => ?_)
  · obtain ⟨p, most, width, b, rfl, _⟩ := h
    rfl
  · obtain ⟨p, most, width, b, rfl, hp, m0, m1, w0, w1, k⟩ := h
    have hr1 : Room 1 _ := hr.mono (by decide)
    have hr2 : Room 2 _ := hr.mono (by decide)
    refine ⟨_, pss_cons (ps_set (i := 4) scDrawn.nd rfl (Or.inr rfl) (pe_slice sl_list (pe_call L.GM hr2 (by rfl) L.eM.g L.eM.k L.bM .nil pass0 (pa_cons (pv 0) (pa_cons (pe_call0 L.GN hr1 (by rfl) L.eN.g L.eN.k L.bN .nil pass0) pa_nil))) po_none
        (po_some (pe_op op_add pe_int (pe_call L.GR hr1 (by rfl) L.eR.g L.eR.k L.bR .nil pass0 (pa_cons (pv 0) (pa_cons (pv 2) pa_nil)))))))
      (pss_cons (ps_par (i := 5) (j := 6) rfl scDrawn.nd rfl rfl (by decide) rfl rfl (pa_cons (pe_lc (own := [("_law_turn", 10)]) (g := gName 10) (tt := tYes) rfl scDrawn.nd (pi_range1 (by rfl) T.range (pa_cons pe_int pa_nil))
          (blkOk_by (own := [("_law_turn", 10)]) (N := nDrawn) (sc := defScope sDrawn) (by decide +kernel)) (fun _ _ _ _ _ => pg_name (i := 10) scDrawn.nd rfl (Or.inl rfl)) (fun _ _ _ _ _ => pts_nil)
          (fun _ _ _ _ _ => pe_op op_add pe_int (pe_call L.GR hr1 (by rfl) L.eR.g L.eR.k L.bR .nil pass0 (pa_cons (pv 0) (pa_cons pe_int pa_nil))))) (pa_cons (pe_lst pa_nil) pa_nil)) rfl)
      (pss_cons (ps_for PassesOwn.never rfl (pi_range1 (by rfl) T.range (pa_cons (pe_op op_add pe_int (pe_call L.GR hr1 (by rfl) L.eR.g L.eR.k L.bR .nil pass0 (pa_cons (pv 0) (pa_cons (pv 1) pa_nil)))) pa_nil)) (pg_name (i := 7) scDrawn.nd rfl (Or.inl rfl))
        (pss_cons (ps_set (i := 8) scDrawn.nd rfl (Or.inl rfl) (pe_ifExp (pt_val (pv 3)) (pv 7) (pe_call L.GR hr1 (by rfl) L.eR.g L.eR.k L.bR .nil pass0 (pa_cons (pv 0) (pa_cons pe_int pa_nil)))))
        (pss_cons (ps_set (i := 9) scDrawn.nd rfl (Or.inl rfl) (pe_callTy (T := "tuple") call_tuple_of (by rfl) T.tup (by decide +kernel) (pa_cons (pe_lc (own := [("_law_turn", 10)]) (g := gName 10) (tt := tYes) rfl scDrawn.nd
            (pi_range1 (by rfl) T.range (pa_cons (pe_ix ix_list (pv 5) (pv 8) (fun _ _ => rfl)) pa_nil))
            (blkOk_by (own := [("_law_turn", 10)]) (N := nDrawn) (sc := defScope sDrawn) (by decide +kernel)) (fun _ _ _ _ _ => pg_name (i := 10) scDrawn.nd rfl (Or.inl rfl)) (fun _ _ _ _ _ => pts_nil)
            (fun _ _ _ _ _ => pe_call L.GP hr2 (by rfl) L.eP.g L.eP.k L.bP .nil pass0 (pa_cons (pv 0) (pa_cons (pv 4) pa_nil)))) pa_nil)))
        (pss_one (ps_expr (pe_bm PySem.F.plainAttrs_list PySem.F.slot_list_append PySem.F.type_list_append mt_append (pv 6) (pa_cons (pe_tup (pa_cons (pe_ix ix_str pe_str (pv 8) (fun _ _ => rfl)) (pa_cons (pv 9) pa_nil))) pa_nil)))))))
      (pss_one (ps_ret (pe_call L.GA hr (by rfl) L.eA.g L.eA.k L.bA .nil pass0 (pa_cons (pv 0) (pa_cons (pv 6) (pa_cons (pe_call L.GR hr1 (by rfl) L.eR.g L.eR.k L.bR .nil pass0 (pa_cons (pv 0) (pa_cons pe_int pa_nil))) pa_nil)))))))), ?_⟩
    refine ⟨_, rfl, rfl, fun a ha => ?_⟩
    have s0 := K0.Same.new (.lst (names16.map V.str)) ha
    have hp0 := hp.same s0
    have ap : a ≠ p := dice_ne hp0 upd_same (no_int _)
    refine ⟨p, a, _, rfl, hp0, ap, upd_same, by decide, fun ys m H1 pm hm em kd1 hp1 => ?_⟩
    obtain ⟨zs, rfl, pz⟩ := strs_map_perm pm
    have zl : zs.length = 16 := pz.length_eq
    have mp : m ≠ p := dice_ne hp1 em (no_int _)
    refine ⟨_, rfl, _, rfl, p, _, rfl, hp1, by omega, by omega, fun r H2 r0 r1 kd2 hp2 => ⟨_, _, rfl, rfl, _, rfl, m, _, rfl, SqL.of (kd2 _ _ mp em), fun n hn => ?_⟩⟩
    rw [cutV_take zs (1 + r) (by omega) (by omega)]
    have pool8 : (zs.take (1 + r).toNat).length ≤ 8 := by rw [List.length_take]; omega
    have pool0 : 0 < (zs.take (1 + r).toNat).length := by rw [List.length_take]; omega
    have pool16 : ∀ k ∈ zs.take (1 + r).toNat, k ∈ names16 := fun k hk => pz.mem_iff.mp (List.mem_of_mem_take hk)
    generalize zs.take (1 + r).toNat = pool at pool8 pool0 pool16
    have s3 := K0.Same.new (.lst (pool.map V.str)) hn
    have kd3 : Kd p H _ := ((Kd.of s0).tr kd1).tr (kd2.tr (Kd.of s3))
    have hp3 := hp2.same s3
    have hn3 : upd H2 n (.lst (pool.map V.str)) n = some (.lst (pool.map V.str)) := upd_same
    have np : n ≠ p := dice_ne hp3 hn3 (no_int _)
    generalize upd H2 n (.lst (pool.map V.str)) = H3 at kd3 hp3 hn3
    refine ⟨8, rfl, by decide, by decide, fun D hD => lc_roll (p := p) (Gd := fun y => ∃ n : Int, y = .int n ∧ 1 ≤ n ∧ n ≤ 3) walk_range (small1000 (by decide)) hD hp3 (fun _ _ _ => True.intro) ?_ gName_mono ?_⟩
    · rintro i x H4 H5 hi kd4 dc4 ⟨rfl, rfl⟩
      exact ⟨rfl, fun Q' q => ⟨_, rfl, p, _, rfl, dc4, by decide, by decide, fun r3 H6 r30 r31 kd6 dc6 => ⟨_, _, rfl, rfl, q _ H6 ⟨_, rfl, by omega, by omega⟩ kd6 dc6⟩⟩⟩
    · intro H4 acc kd4 dc4 hD4 hacc hall
      have Dp : D ≠ p := fun e => by
        obtain ⟨x, y, z, q⟩ := hp3
        rw [← e, hD] at q
        cases q
      refine ⟨by show 0 ≤ sizeLine; decide, fun q hq => ⟨_, _, rfl, ?_⟩⟩
      have s5 := K0.Same.new (.lst []) hq
      have qp : q ≠ p := fun e => by
        obtain ⟨x, y, z, u⟩ := dc4
        rw [← e, hq] at u
        cases u
      have hq0 : H q = none := none_kd hp dc4 (kd3.tr kd4) hq
      have nq : n ≠ q := ne_of_none (kd4 _ _ np hn3) hq
      have Dq : D ≠ q := ne_of_none hD4 hq
      refine ⟨_, rfl, _, rfl, p, _, rfl, dc4.same s5, by omega, by omega, fun r5 H6 r50 r51 kd6 dc6 => ⟨_, _, rfl, rfl, _, rfl, by omega, by omega, for_range (n := (1 + r5).toNat)
        (fun i σ H' => ∃ (v7 v8 v9 : Option V) (ts : List Addr) (cs : List CL), σ = [some (.ref p), some (.int most), some (.int width), some (.bl b), some (.ref n), some (.ref D), some (.ref q), v7, v8, v9, none] ∧
          Kd p H H' ∧ DiceAt H' p ∧ H' n = some (.lst (pool.map V.str)) ∧ H' D = some (.lst acc) ∧ H' q = some (.lst (ts.map V.ref)) ∧ Cls H' ts cs ∧ cs.length = i ∧ ∀ c ∈ cs, WideAs acc pool c)
        ⟨none, none, none, [], [], rfl, (kd3.tr kd4).tr ((Kd.of s5).tr kd6), dc6, kd6 _ _ np (s5 _ _ (kd4 _ _ np hn3)), kd6 _ _ Dp (s5 _ _ hD4), kd6 _ _ qp upd_same, .nil, rfl, fun c h => by cases h⟩ ?_ ?_⟩⟩
      · rintro i σ H7 hi ⟨v7, v8, v9, ts, cs, rfl, kd7, dc7, hn7, hD7, hq7, hc7, len7, all7⟩
        refine ⟨_, rfl, _, rfl, if_tab (p := p) (i := 0 + (i : Int)) (fun Q q => ⟨_, rfl, q⟩) (fun Q q => ⟨_, rfl, q⟩) dc7 (by omega) (by omega) fun j H8 j0 j1 kd8 dc8 => ?_⟩
        have jl : j.toNat < acc.length := by omega
        obtain ⟨wn, ew, wn0, wn1⟩ := hall _ (List.getElem_mem jl)
        have eat : atI acc ((j.toNat : Nat) : Int) = some (.int wn) := atI_nat (by rw [List.getElem?_eq_getElem jl, ew])
        rw [Int.toNat_of_nonneg j0] at eat
        have hD8 := kd8 _ _ Dp hD7
        have hn8 := kd8 _ _ np hn7
        have hq8 := kd8 _ _ qp hq7
        have hc8 := hc7.kd dc7 kd8
        refine ⟨_, rfl, _, rfl, D, acc, j, _, rfl, rfl, SqL.of hD8, eat, wn, rfl, by omega, by omega, fun D2 hD2 => lc_roll (p := p) (Gd := fun y => ∃ z, y = V.str z ∧ z ∈ pool) walk_range (small1000 (by omega)) hD2 dc8 (fun _ _ _ => True.intro) ?_ gName_mono ?_⟩
        · rintro i2 x H9 H10 hi2 kd9 dc9 ⟨rfl, rfl⟩
          refine ⟨rfl, fun Q' q' => ⟨_, rfl, _, rfl, p, n, _, rfl, dc9, np, kd9 _ _ np hn8, by rw [List.length_map]; exact pool0, by rw [List.length_map]; omega, fun v H11 hv kd11 dc11 => q' _ H11 ?_ kd11 dc11⟩⟩
          obtain ⟨z, hz, rfl⟩ := List.mem_map.mp hv
          exact ⟨z, rfl, hz⟩
        · intro H9 acc2 kd9 dc9 hD9 hacc2 hall2
          obtain ⟨cols, rfl, hcols⟩ := strs_in acc2 pool hall2
          refine ⟨D2, _, rfl, .inl ⟨SqL.of hD9, fun t2 ht2 => ?_⟩⟩
          have s10 := K0.Same.new (.tup (cols.map V.str)) ht2
          have hq10 := s10 _ _ (kd9 _ _ qp hq8)
          obtain ⟨cc, ec1, ec2⟩ := tab_at (j := j.toNat) (by omega)
          have eat2 : atI tabLine.cps.toList ((j.toNat : Nat) : Int) = some cc := atI_nat ec1
          rw [Int.toNat_of_nonneg j0] at eat2
          refine ⟨_, rfl, .inl ⟨rfl, _, SqL.of hq10⟩, _, rfl, tabLine, j, cc, rfl, rfl, by decide +kernel, eat2, _, rfl, by show 2 ≤ sizeLine; decide, fun t ht => ?_⟩
          have s11 := K0.Same.new (.tup [.str ⟨#[cc]⟩, .ref t2]) ht
          have qt : q ≠ t := ne_of_none hq10 ht
          have kd11 := (kd8.tr kd9).tr ((Kd.of s10).tr (Kd.of s11))
          have cl11 : Cls _ ts cs := (((hc8.kd dc8 kd9).same s10).same s11)
          have new : ClA (upd (upd H9 t2 (.tup (cols.map V.str))) t (.tup [.str ⟨#[cc]⟩, .ref t2])) t ((⟨#[cc]⟩ : Str), cols) := ⟨t2, upd_same, s11 _ _ upd_same⟩
          have hq11 := s11 _ _ hq10
          have off : ∀ xs, upd (upd H9 t2 (.tup (cols.map V.str))) t (.tup [.str ⟨#[cc]⟩, .ref t2]) q ≠ some (.tup xs) := fun xs e => by
            rw [hq11] at e
            cases e
          have tl : ts.length = cs.length := hc7.len
          refine ⟨q, _, _, rfl, rfl, hq11, small1000 (by rw [List.length_map]; omega), ?_⟩
          refine ⟨_, _, _, ts ++ [t], cs ++ [((⟨#[cc]⟩ : Str), cols)], rfl, fun b' o nb e => ?_, (((dc9.same s10).same s11)).up qp.symm, ?_, ?_, by rw [upd_same, List.map_append]; rfl, (Cls.snoc new cl11).off off, by rw [List.length_append, len7]; rfl, fun c hc => ?_⟩
          · have old := kd7 _ _ nb e
            have nq' : b' ≠ q := fun z => by
              rw [z] at e
              exact absurd e (by rw [hq0]; exact fun z => by cases z)
            rw [upd_ne nq']
            exact kd11 _ _ nb old
          · rw [upd_ne nq]
            exact kd11 _ _ np hn7
          · rw [upd_ne Dq]
            exact kd11 _ _ Dp hD7
          · rcases List.mem_append.mp hc with e | e
            · exact all7 c e
            · rw [List.mem_singleton.mp e]
              exact ⟨j.toNat, wn, ec2, by rw [List.getElem?_eq_getElem jl, ew], by rw [← List.length_map (f := V.str), hacc2]; omega, wn0, wn1, hcols⟩
      · rintro σ H7 ⟨v7, v8, v9, ts, cs, rfl, kd7, dc7, hn7, hD7, hq7, hc7, len7, all7⟩
        have g : GoodQ cs := good_wide (fun e => by rw [e] at len7; simp at len7; omega) (by omega) pool8 pool16 all7
        exact ⟨_, rfl, _, rfl, _, rfl, p, _, rfl, dc7, by decide, by decide, fun r8 H8 r80 r81 kd8 dc8 => ask_good (E := E0) hp (kd7.tr kd8) dc8 (kd8 _ _ qp hq7) (hc7.kd dc7 kd8).ins g k⟩
end
end K0

/-! ## Q5 -/
set_option maxRecDepth 100000
set_option maxHeartbeats 2000000
namespace K0
open PySem L2 NS
/-! ### two addresses change -/
def Kd2 (p q : Addr) (H H' : Hp) : Prop := ∀ b o, b ≠ p → b ≠ q → H b = some o → H' b = some o
theorem Kd2.tr {p q : Addr} {A B C : Hp} (a : Kd2 p q A B) (b : Kd2 p q B C) : Kd2 p q A C := fun c o n1 n2 h => b c o n1 n2 (a c o n1 n2 h)
theorem Kd2.l {p q : Addr} {A B : Hp} (a : Kd p A B) : Kd2 p q A B := fun c o n1 _ h => a c o n1 h
theorem Kd2.r {p q : Addr} {A B : Hp} (a : Kd q A B) : Kd2 p q A B := fun c o _ n2 h => a c o n2 h
/-- a comprehension whose step rolls the dice and makes objects -/
theorem lc_rollR {J : It} {n : Nat} {G : Hp → Prop} {Y : Nat → Hp → V → Hp → Prop} (w : Walk J n G Y) {g : TG} {te : TE} {vs : List Nat} {σ : L2.St} {H1 : Hp} {D p : Addr} {Qd : Hp → Prop} (R : Nat → V → Hp → Prop)
    (mono : ∀ i y H H', R i y H → Kd2 p D H H' → R i y H') (hn : n < sizeLine) (hD : H1 D = none) (hp : DiceAt H1 p) (hG : ∀ H, Kd p H1 H → DiceAt H p → G H)
    (hs : ∀ i x H H', i < n → Kd p H1 H → DiceAt H p → (∃ acc, H D = some (.lst acc)) → Y i H x H' → g x (wipe σ vs) H' fun σ2 H2 => wipe σ2 vs = wipe σ vs ∧ ∀ (Q : V → Hp → Prop), (∀ y H4, Kd p H H4 → DiceAt H4 p → R i y H4 → Q y H4) → te σ2 H2 Q)
    (gm : ∀ x σ H (P R : L2.St → Hp → Prop), (∀ σ2 H2, P σ2 H2 → R σ2 H2) → g x σ H P → g x σ H R)
    (hd : ∀ H acc, Kd p H1 H → DiceAt H p → H D = some (.lst acc) → acc.length = n → (∀ i y, acc[i]? = some y → R i y H) → Qd H) :
    ∃ W : Nat → Nat → Hp → Prop, (∃ m, W 0 m (upd H1 D (.lst []))) ∧ ∀ i m H, W i m H →
      (J.stop i H ∧ Qd H) ∨ (J.go i H ∧ ∃ Nx : Hp → Prop, (∀ H', Nx H' → ∃ m', m' < m ∧ W (i + 1) m' H') ∧ ∀ x H', J.yld i H x H' → g x (wipe σ vs) H' fun σ2 H2 => wipe σ2 vs = wipe σ vs ∧ tYes σ2 H2 fun b H3 =>
        if b = true then te σ2 H3 fun y H4 => ∃ acc, H4 D = some (.lst acc) ∧ acc.length < sizeLine ∧ Nx (upd H4 D (.lst (acc ++ [y]))) else Nx H3) := by
  have hDp : p ≠ D := by
    obtain ⟨x0, y0, z0, e0⟩ := hp
    exact ne_of_none e0 hD
  refine lc_it w (fun i H => Kd p H1 H ∧ DiceAt H p ∧ ∃ acc, H D = some (.lst acc) ∧ acc.length = i ∧ ∀ j y, acc[j]? = some y → R j y H)
    ⟨Kd.of (Same.new _ hD), hp.up hDp, [], upd_same, rfl, fun j y z => by simp at z⟩ (fun i H _ q => hG H q.1 q.2.1) (fun i x H H' hi q y => ?_) (fun H q => ?_)
  · obtain ⟨q1, q2, acc, q3, q4, q5⟩ := q
    refine gm _ _ _ _ _ (fun σ2 H2 r => ⟨r.1, ?_⟩) (hs i x H H' hi q1 q2 ⟨acc, q3⟩ y)
    dsimp only [tYes]
    rw [if_pos rfl]
    refine r.2 _ fun y H4 s4 d4 r4 => ⟨acc, s4 _ _ hDp.symm q3, by omega, ?_, d4.up hDp, acc ++ [y], upd_same, by rw [List.length_append, q4]; rfl, ?_⟩
    · exact fun b o nb e => by rw [upd_ne (ne_of_none e hD)]; exact s4 _ _ nb (q1 _ _ nb e)
    · have kd : Kd2 p D H4 (upd H4 D (.lst (acc ++ [y]))) := fun b o _ nb e => by rw [upd_ne nb]; exact e
      intro j u hu
      by_cases c : j < acc.length
      · rw [List.getElem?_append_left c] at hu
        exact mono _ _ _ _ (mono _ _ _ _ (q5 j u hu) (Kd2.l s4)) kd
      · have c2 : j = acc.length := by
          have z := (List.getElem?_eq_some_iff.mp hu).1
          rw [List.length_append] at z
          simp at z
          omega
        rw [c2, List.getElem?_append_right (Nat.le_refl _), Nat.sub_self] at hu
        obtain rfl : y = u := Option.some.inj hu
        rw [c2, q4]
        exact mono _ _ _ _ r4 kd
  · obtain ⟨q1, q2, acc, q3, q4, q5⟩ := q
    exact hd H acc q1 q2 q3 q4 q5
/-! ### lists of columns -/
def okCols (pool : List Str) (xs : List Str) : Prop := 0 < xs.length ∧ xs.length ≤ 8 ∧ ∀ k ∈ xs, k ∈ pool
def SetA (H : Hp) (l : Addr) (xs : List Str) : Prop := H l = some (.lst (xs.map V.str))
def Sets (H : Hp) (ls : List Addr) (F : List Str → Prop) : Prop := ∀ l ∈ ls, ∃ xs : List Str, SetA H l xs ∧ F xs
theorem Sets.kd {H H' : Hp} {ls : List Addr} {F : List Str → Prop} {p : Addr} (h : Sets H ls F) (hp : DiceAt H p) (k : Kd p H H') : Sets H' ls F := fun l hl => by
  obtain ⟨xs, e, f⟩ := h l hl
  exact ⟨xs, k _ _ (dice_ne hp e (no_int _)) e, f⟩
theorem Sets.same {H H' : Hp} {ls : List Addr} {F : List Str → Prop} (h : Sets H ls F) (s : Same H H') : Sets H' ls F := fun l hl => by
  obtain ⟨xs, e, f⟩ := h l hl
  exact ⟨xs, s _ _ e, f⟩
theorem Sets.off {H : Hp} {ls : List Addr} {F : List Str → Prop} {q : Addr} {o : HO} (h : Sets H ls F) (n : q ∉ ls) : Sets (upd H q o) ls F := fun l hl => by
  obtain ⟨xs, e, f⟩ := h l hl
  exact ⟨xs, by show upd H q o l = _; rw [upd_ne (show l ≠ q from fun z => n (by rw [← z]; exact hl))]; exact e, f⟩
theorem Sets.weak {H : Hp} {ls : List Addr} {F G : List Str → Prop} (h : Sets H ls F) (g : ∀ xs, F xs → G xs) : Sets H ls G := fun l hl => by
  obtain ⟨xs, e, f⟩ := h l hl
  exact ⟨xs, e, g xs f⟩
theorem Sets.snoc {H : Hp} {ls : List Addr} {F : List Str → Prop} {l : Addr} {xs : List Str} (h : Sets H ls F) (e : SetA H l xs) (f : F xs) : Sets H (ls ++ [l]) F := fun m hm => by
  rcases List.mem_append.mp hm with z | z
  · exact h m z
  · rw [List.mem_singleton.mp z]
    exact ⟨xs, e, f⟩
/-! ### xs != [] -/
theorem dp_strs {K : PySem.W.Frag} {H : Hp} : ∀ xs : List Str, DpAll K H (xs.map V.str) (xs.map PyData.str)
  | [] => .nil
  | x :: xs => .cons (.str x) (dp_strs xs)
theorem lay_strs : ∀ xs : List Str, (∀ k ∈ xs, k ∈ names16) → PyData.canLayAll0 (xs.map PyData.str) = true ∧ PyData.depthAll (xs.map PyData.str) = 0
  | [], _ => ⟨rfl, rfl⟩
  | x :: xs, h => by
    obtain ⟨r1, r2⟩ := lay_strs xs fun k hk => h k (List.mem_cons_of_mem _ hk)
    have z : ∀ k ∈ names16, PyData.canLay0 (.str k) = true := by decide +kernel
    exact ⟨by rw [List.map_cons, PyData.canLayAll0, z x (h x List.mem_cons_self), r1]; rfl, by rw [List.map_cons, PyData.depthAll, r2]; rfl⟩
theorem shaped_strs {xs : List Str} (h : ∀ k ∈ xs, k ∈ names16) : SeqAt.shaped (.list (xs.map PyData.str)) = true := by
  obtain ⟨r1, r2⟩ := lay_strs xs h
  unfold SeqAt.shaped
  rw [PyData.canLay0, PyData.depth, r1, r2]
  rfl
theorem ne_nil_strs {K : PySem.W.Frag} {H : Hp} {a b : Addr} {xs : List Str} {Q : VK} (ha : H a = some (.lst (xs.map V.str))) (hb : H b = some (.lst [])) (h : ∀ k ∈ xs, k ∈ names16) (q : Q (.bl (decide (xs ≠ []))) H) : rNeD K (.ref a) (.ref b) H Q := by
  refine ⟨.list (xs.map .str), .list [], .lst (SqL.of ha) (dp_strs xs), .lst (SqL.of hb) .nil, shaped_strs h, by decide +kernel, ?_⟩
  have e : (!PyData.eqv (.list (xs.map .str)) (.list [])) = decide (xs ≠ []) := by
    cases xs with
    | nil => rfl
    | cons x xs => rfl
  rw [e]
  exact q
/-! ### the clauses at the end -/
def RowAt (zs : List Str) (pool : List Str) (D p : Addr) : Nat → V → Hp → Prop := fun i y H => ∃ (t t2 : Addr) (c : CL), y = V.ref t ∧ zs[i]? = some c.1 ∧ okCols pool c.2 ∧ t ≠ p ∧ t ≠ D ∧ t2 ≠ p ∧ t2 ≠ D ∧ H t = some (.tup [.str c.1, .ref t2]) ∧ H t2 = some (.tup (c.2.map V.str))
theorem RowAt.mono {zs pool : List Str} {D p : Addr} : ∀ i y H H', RowAt zs pool D p i y H → Kd2 p D H H' → RowAt zs pool D p i y H' := by
  rintro i y H H' ⟨t, t2, c, e1, e2, e3, n1, n2, n3, n4, h1, h2⟩ k
  exact ⟨t, t2, c, e1, e2, e3, n1, n2, n3, n4, k _ _ n1 n2 h1, k _ _ n3 n4 h2⟩
theorem rows_at {pool : List Str} {D p : Addr} {H : Hp} : ∀ (acc : List V) (zs : List Str), (∀ (i : Nat) (y : V), acc[i]? = some y → RowAt zs pool D p i y H) → ∃ (ts : List Addr) (cs : List CL), acc = ts.map V.ref ∧ Cls H ts cs ∧ ∀ (i : Nat) (c : CL), cs[i]? = some c → zs[i]? = some c.1 ∧ okCols pool c.2
  | [], _, _ => ⟨[], [], rfl, .nil, fun i c h => by simp at h⟩
  | y :: acc, zs, h => by
    obtain ⟨t, t2, c, rfl, e2, e3, _, _, _, _, h1, h2⟩ := h 0 y rfl
    have hz : ∃ z zs', zs = z :: zs' := by
      cases zs with
      | nil => cases e2
      | cons z zs' => exact ⟨z, zs', rfl⟩
    obtain ⟨z, zs', rfl⟩ := hz
    obtain ⟨ts, cs, rfl, r2, r3⟩ := rows_at acc zs' fun i u hu => h (i + 1) u hu
    refine ⟨t :: ts, c :: cs, rfl, .cons ⟨t2, h1, h2⟩ r2, fun i u hu => ?_⟩
    cases i with
    | zero =>
      obtain rfl : c = u := Option.some.inj hu
      exact ⟨e2, e3⟩
    | succ i => exact r3 i u hu
theorem good_rows {pool zs : List Str} {cs : List CL} (h0 : cs ≠ []) (h1 : cs.length ≤ 7) (hp : pool.length ≤ 8) (hn : ∀ k ∈ pool, k ∈ names16) (hz : zs.Perm tabs8) (h : ∀ (i : Nat) (c : CL), cs[i]? = some c → zs[i]? = some c.1 ∧ okCols pool c.2) : GoodQ cs where
  some_ := h0
  few := h1
  tab c hc := by
    obtain ⟨i, hi⟩ := List.mem_iff_getElem?.mp hc
    exact hz.mem_iff.mp (List.mem_of_getElem? (h i c hi).1)
  wide c hc := by
    obtain ⟨i, hi⟩ := List.mem_iff_getElem?.mp hc
    exact ⟨(h i c hi).2.1, (h i c hi).2.2.1⟩
  same c hc c' hc' e := by
    obtain ⟨i, hi⟩ := List.mem_iff_getElem?.mp hc
    obtain ⟨j, hj⟩ := List.mem_iff_getElem?.mp hc'
    have a1 := (h i c hi).1
    have b1 := (h j c' hj).1
    rw [← e] at b1
    have jj : i = j := by
      obtain ⟨l1, q1⟩ := List.getElem?_eq_some_iff.mp a1
      obtain ⟨l2, q2⟩ := List.getElem?_eq_some_iff.mp b1
      exact (List.getElem_inj (hz.nodup_iff.mpr tab_nodup)).mp (q1.trans q2.symm)
    subst jj
    rw [hi] at hj
    rw [Option.some.inj hj]
  cols := ⟨pool, hp, hn, fun c hc => by
    obtain ⟨i, hi⟩ := List.mem_iff_getElem?.mp hc
    exact (h i c hi).2.2.2⟩
/-! ### what is popped -/
structure PopI (H1 : Hp) (a D : Addr) (pool : List Str) (n : Nat) (acc ps : List Str) (H' : Hp) : Prop where
  ne : a ≠ D
  none_ : H1 D = none
  kd : Kd a H1 H'
  dt : H' D = some (.lst (acc.map V.str))
  pt : H' a = some (.lst (ps.map V.str))
  len : acc.length + ps.length = n
  acc_in : ∀ k ∈ acc, k ∈ pool
  ps_in : ∀ k ∈ ps, k ∈ pool
theorem PopI.same {H1 H' H2 : Hp} {a D : Addr} {pool : List Str} {n : Nat} {acc ps : List Str} (h : PopI H1 a D pool n acc ps H') (s : Same H' H2) : PopI H1 a D pool n acc ps H2 :=
  ⟨h.ne, h.none_, fun b o nb e => s _ _ (h.kd b o nb e), s _ _ h.dt, s _ _ h.pt, h.len, h.acc_in, h.ps_in⟩
theorem PopI.start {H1 : Hp} {a D : Addr} {pool ps : List Str} (ha : H1 a = some (.lst (ps.map V.str))) (hD : H1 D = none) (hin : ∀ k ∈ ps, k ∈ pool) : PopI H1 a D pool ps.length [] ps (upd H1 D (.lst [])) :=
  ⟨ne_of_none ha hD, hD, Kd.of (Same.new _ hD), upd_same, (by rw [upd_ne (ne_of_none ha hD)]; exact ha), (by simp), (fun k h => by cases h), hin⟩
theorem PopI.pop {H1 H' : Hp} {a D : Addr} {pool : List Str} {n : Nat} {acc ps : List Str} (h : PopI H1 a D pool n acc ps H') (ne : ps ≠ []) :
    ∃ y : Str, (ps.map V.str)[(ps.map V.str).length - 1]? = some (V.str y) ∧ upd H' a (.lst (ps.map V.str).dropLast) D = some (.lst (acc.map V.str)) ∧
      PopI H1 a D pool n (acc ++ [y]) ps.dropLast (upd (upd H' a (.lst (ps.map V.str).dropLast)) D (.lst (acc.map V.str ++ [V.str y]))) := by
  have pl : 0 < ps.length := List.length_pos_iff.mpr ne
  refine ⟨ps.getLast ne, ?_, by rw [upd_ne h.ne.symm]; exact h.dt, h.ne, h.none_, fun b o nb e => ?_, by rw [upd_same, List.map_append]; rfl, ?_, ?_, fun k hk => ?_, fun k hk => h.ps_in k (List.dropLast_subset _ hk)⟩
  · rw [List.length_map, List.getElem?_map, List.getElem?_eq_getElem (by omega), List.getLast_eq_getElem]
    rfl
  · rw [upd_ne (ne_of_none e h.none_), upd_ne nb]
    exact h.kd _ _ nb e
  · rw [upd_ne h.ne, upd_same, List.map_dropLast]
  · have z := h.len
    rw [List.length_append, List.length_dropLast]
    simp only [List.length_cons, List.length_nil]
    omega
  · rcases List.mem_append.mp hk with e | e
    · exact h.acc_in k e
    · rw [List.mem_singleton.mp e]
      exact h.ps_in _ (List.getLast_mem ne)
end K0

/-! ## Q6 -/
set_option maxRecDepth 100000
set_option maxHeartbeats 4000000
namespace K0
open PySem L2 NS
/-- tuple(x), x a list or a tuple -/
def rTupOf (K : PySem.W.Frag) : List V → Hp → VK → Prop := fun xs H Q => ∃ p ys, xs = [.ref p] ∧ ((SqL K H p ys ∧ ∀ l, H l = none → Q (.ref l) (upd H l (.tup ys))) ∨ (SqT K H p ys ∧ Q (.ref p) H))
theorem Sets.kd2 {H H' : Hp} {ls : List Addr} {F : List Str → Prop} {p a : Addr} (h : Sets H ls F) (hp : DiceAt H p) (n : a ∉ ls) (k : Kd2 p a H H') : Sets H' ls F := fun l hl => by
  obtain ⟨xs, e, f⟩ := h l hl
  exact ⟨xs, k _ _ (dice_ne hp e (no_int _)) (fun z => n (by rw [← z]; exact hl)) e, f⟩
/-- as many as were popped -/
def Popped (pool ps xs : List Str) : Prop := 0 < xs.length ∧ xs.length + ps.length ≤ 8 ∧ ∀ k ∈ xs, k ∈ pool
def TreeInv (H : Hp) (p a sA : Addr) (most : Int) (pool : List Str) (i : Nat) (σ : L2.St) (H' : Hp) : Prop := ∃ (v4 v5 v6 v7 : Option V) (ls : List Addr) (ps : List Str), σ = [some (.ref p), some (.int most), some (.ref a), some (.ref sA), v4, v5, v6, v7, none, none, none, none] ∧
          Kd p H H' ∧ DiceAt H' p ∧ H' a = some (.lst (ps.map V.str)) ∧ H' sA = some (.lst (ls.map V.ref)) ∧ ls.length = i + 1 ∧ a ∉ ls ∧ sA ∉ ls ∧ Sets H' ls (Popped pool ps) ∧ ∀ k ∈ ps, k ∈ pool
/-- a clause of the drawn sets -/
theorem row_step {K : PySem.W.Frag} {zs pool : List Str} {D p nA sA : Addr} {ls : List Addr} {σ : L2.St} {tN tAt tP tS : TE} {i : Nat} {H : Hp} {E : XK} (hN : ∀ (H : Hp) (Q : VK), Q (.ref nA) H → tN σ H Q) (hA : ∀ (H : Hp) (Q : VK), Q (.int (0 + (i : Int))) H → tAt σ H Q)
    (hP : ∀ (H : Hp) (Q : VK), Q (.ref p) H → tP σ H Q) (hS : ∀ (H : Hp) (Q : VK), Q (.ref sA) H → tS σ H Q) (hi : i < ls.length) (dc : DiceAt H p) (Dp : D ≠ p) (eD : ∃ acc, H D = some (.lst acc)) (eN : H nA = some (.lst (zs.map V.str))) (nN : nA ≠ p) (hz : ls.length ≤ zs.length)
    (eS : H sA = some (.lst (ls.map V.ref))) (nS : sA ≠ p) (sets : Sets H ls (okCols pool)) {Q : VK} (q : ∀ y H4, Kd p H H4 → DiceAt H4 p → RowAt zs pool D p i y H4 → Q y H4) :
    tTup (tCons (tOp (rIxL K) tN tAt) (tCons (tCB (rTupOf K) (tCons (tCall spMixed [] E (tCons tP (tCons (tOp (rIxL K) tS tAt) tNil))) tNil)) tNil)) σ H Q := by
  have hiz : i < zs.length := Nat.lt_of_lt_of_le hi hz
  have z0 : (0 + (i : Int)) = ((i : Nat) : Int) := by omega
  have a1 : atI (zs.map V.str) (0 + (i : Int)) = some (V.str zs[i]) := by
    rw [z0]
    exact atI_nat (by rw [List.getElem?_map, List.getElem?_eq_getElem hiz]; rfl)
  have a2 : atI (ls.map V.ref) (0 + (i : Int)) = some (V.ref ls[i]) := by
    rw [z0]
    exact atI_nat (by rw [List.getElem?_map, List.getElem?_eq_getElem hi]; rfl)
  obtain ⟨xs, ex, ok⟩ := sets ls[i] (List.getElem_mem hi)
  have x8 : xs.length ≤ 8 := ok.2.1
  refine hN _ _ (hA _ _ ⟨nA, _, _, _, rfl, rfl, SqL.of eN, a1, hP _ _ (hS _ _ (hA _ _ ⟨sA, _, _, _, rfl, rfl, SqL.of eS, a2, p, ls[i], _, rfl, dc, dice_ne dc ex (no_int _), ex, by rw [List.length_map]; omega, fun ys m H2 pm hm em kd2 dc2 => ?_⟩))⟩)
  obtain ⟨cols, rfl, pc⟩ := strs_map_perm pm
  refine ⟨m, _, rfl, .inl ⟨SqL.of em, fun t2 ht2 => ⟨by show 2 ≤ sizeLine; decide, fun t ht => ?_⟩⟩⟩
  have s3 := K0.Same.new (.tup (cols.map V.str)) ht2
  have s4 := K0.Same.new (.tup [.str zs[i], .ref t2]) ht
  obtain ⟨acc, eD⟩ := eD
  have eD2 := kd2 _ _ Dp eD
  have dice_no : ∀ {H : Hp} {b : Addr}, DiceAt H p → H b = none → b ≠ p := fun {H b} d h e => by
    obtain ⟨x, y, z, u⟩ := d
    rw [e, u] at h
    cases h
  have no : ∀ {H : Hp} {b : Addr}, H D = some (.lst acc) → H b = none → b ≠ D := fun {H b} d h e => by
    rw [e, d] at h
    cases h
  refine q _ _ (kd2.tr ((Kd.of s3).tr (Kd.of s4))) ((dc2.same s3).same s4) ⟨t, t2, (zs[i], cols), rfl, List.getElem?_eq_getElem hiz, ⟨by rw [pc.length_eq]; exact ok.1, by rw [pc.length_eq]; exact ok.2.1, fun k hk => ok.2.2 k (pc.mem_iff.mp hk)⟩,
    dice_no (dc2.same s3) ht, no (s3 _ _ eD2) ht, dice_no dc2 ht2, no eD2 ht2, upd_same, s4 _ _ upd_same⟩
abbrev sTree : Stmt := top 44
def spTree : Sp := fun vs H Q _ => ∃ (p : Addr) (most : Int), vs = [.ref p, .int most] ∧ DiceAt H p ∧ 1 ≤ most ∧ most ≤ 7 ∧ GiveQ H p Q
section
variable {P : Program} {w : World} {K : PySem.W.Frag} {mg : Str → Option Value} {base : Heap} {fR fP fM fN fA : Addr} {fdR fdP fdM fdN fdA : FuncData}
abbrev nTree : List Str := ["_law_dice_here", "_law_most", "_law_pool", "_law_sets", "_law_turn", "_law_old", "_law_kept", "_law_fresh", "_law_names_here", "_law_clauses", "_law_one", "_law_at"]
theorem scTree : FnScope nTree ["_law_dice_here", "_law_most"] (defScope sTree) := ⟨rfl, rfl, rfl, by decide +kernel, rfl, by decide +kernel, by decide +kernel⟩
theorem ok_tree {f : Addr} {fd : FuncData} (F : Fun K "_law_tree" "_law_tree" sTree f fd) (T : TD K mg) (L : LD P w K mg base fR fP fM fN fA fdR fdP fdM fdN fdA) :
    FnOk P w K mg base CX0 4 f fd ["_law_dice_here", "_law_most"] spTree := by
  refine F.ok scTree (fun vs H Q E h => ?_) (fun cdv A outer s H vs Q E hr h => ?_)
  · obtain ⟨p, most, rfl, _⟩ := h
    rfl
  · obtain ⟨p, most, rfl, hp, m0, m1, k⟩ := h
    have hr1 : Room 1 _ := hr.mono (by decide)
    have hr2 : Room 2 _ := hr.mono (by decide)
    refine ⟨_, pss_cons (ps_set (i := 2) scTree.nd rfl (Or.inr rfl) (pe_slice sl_list (pe_call L.GM hr2 (by rfl) L.eM.g L.eM.k L.bM .nil pass0 (pa_cons (pv 0) (pa_cons (pe_call0 L.GN hr1 (by rfl) L.eN.g L.eN.k L.bN .nil pass0) pa_nil))) po_none (po_some pe_int)))
      (pss_cons (ps_set (i := 3) scTree.nd rfl (Or.inr rfl) (pe_lst (pa_cons (pe_lc (own := [("_law_turn", 4)]) (g := gName 4) (tt := tYes) (te := tBM0 K "list" rPop (tVar 2)) rfl scTree.nd (pi_range1 (by rfl) T.range (pa_cons (pe_op op_add pe_int (pe_call L.GR hr1 (by rfl) L.eR.g L.eR.k L.bR .nil pass0 (pa_cons (pv 0) (pa_cons pe_int pa_nil)))) pa_nil))
          (blkOk_by (own := [("_law_turn", 4)]) (N := nTree) (sc := defScope sTree) (by decide +kernel)) (fun _ _ _ _ _ => pg_name (i := 4) scTree.nd rfl (Or.inl rfl)) (fun _ _ _ _ _ => pts_nil)
          (fun _ _ _ _ _ => pe_bm0 PySem.F.plainAttrs_list PySem.F.slot_list_pop PySem.F.type_list_pop mt_pop (pv 2))) pa_nil)))
      (pss_cons (ps_for PassesOwn.never rfl (pi_range1 (by rfl) T.range (pa_cons (pe_call L.GR hr1 (by rfl) L.eR.g L.eR.k L.bR .nil pass0 (pa_cons (pv 0) (pa_cons (pv 1) pa_nil))) pa_nil)) (pg_name (i := 4) scTree.nd rfl (Or.inl rfl))
        (pss_cons (ps_set (i := 5) scTree.nd rfl (Or.inl rfl) (pe_call L.GP hr2 (by rfl) L.eP.g L.eP.k L.bP .nil pass0 (pa_cons (pv 0) (pa_cons (pv 3) pa_nil))))
        (pss_cons (ps_set (i := 6) scTree.nd rfl (Or.inl rfl) (pe_slice sl_list (pe_call L.GM hr2 (by rfl) L.eM.g L.eM.k L.bM .nil pass0 (pa_cons (pv 0) (pa_cons (pv 5) pa_nil))) po_none
            (po_some (pe_call L.GR hr1 (by rfl) L.eR.g L.eR.k L.bR .nil pass0 (pa_cons (pv 0) (pa_cons (pe_op op_add (pe_callB call_len_seq (by rfl) T.len PySem.boot_len (pa_cons (pv 5) pa_nil)) pe_int) pa_nil))))))
        (pss_cons (ps_setLc (i := 7) (own := [("_law_one", 10)]) (g := gName 10) (te := tBM0 K "list" rPop (tVar 2)) (by rfl) scTree.nd rfl rfl (sw_true rfl rfl rfl (by decide +kernel)) (pi_range1 (by rfl) T.range (pa_cons (pe_call L.GR hr1 (by rfl) L.eR.g L.eR.k L.bR .nil pass0 (pa_cons (pv 0) (pa_cons pe_int pa_nil))) pa_nil))
            (blkOk_by (own := [("_law_one", 10)]) (N := nTree) (sc := defScope sTree) (by decide +kernel)) (fun _ _ _ _ _ => pg_name (i := 10) scTree.nd rfl (Or.inl rfl)) (fun _ _ _ _ _ => pts_one (pt_cmpR (r := rNeD K) (op_neD hr.units) (pv 2) (pe_lst pa_nil) (nomark _)))
            (fun _ _ _ _ _ => pe_bm0 PySem.F.plainAttrs_list PySem.F.slot_list_pop PySem.F.type_list_pop mt_pop (pv 2)))
        (pss_one (ps_expr (pe_bm PySem.F.plainAttrs_list PySem.F.slot_list_append PySem.F.type_list_append mt_append (pv 3) (pa_cons (pe_ifExp (pt_cmpR (op_neD hr.units) (pe_op op_cat (pv 6) (pv 7)) (pe_lst pa_nil) (nomark _))
            (pe_op op_cat (pv 6) (pv 7)) (pe_slice sl_list (pv 5) po_none (po_some pe_int))) pa_nil))))))))
      (pss_cons (ps_set (i := 8) scTree.nd rfl (Or.inr rfl) (pe_call L.GM hr2 (by rfl) L.eM.g L.eM.k L.bM .nil pass0 (pa_cons (pv 0) (pa_cons (pe_callTy (T := "list") (cr_listTx rfl) (by rfl) T.list (by decide +kernel) (pa_cons pe_str pa_nil)) pa_nil))))
      (pss_cons (ps_setLc (i := 9) (own := [("_law_at", 11)]) (g := gName 11) (tt := tYes) (by rfl) scTree.nd rfl rfl (sw_true rfl rfl rfl (by decide +kernel)) (pi_range1 (by rfl) T.range (pa_cons (pe_callB call_len_seq (by rfl) T.len PySem.boot_len (pa_cons (pv 3) pa_nil)) pa_nil))
          (blkOk_by (own := [("_law_at", 11)]) (N := nTree) (sc := defScope sTree) (by decide +kernel)) (fun _ _ _ _ _ => pg_name (i := 11) scTree.nd rfl (Or.inl rfl)) (fun _ _ _ _ _ => pts_nil)
          (fun _ _ _ _ _ => pe_tup (pa_cons (pe_ix (r := rIxL K) ix_list (pv 8) (pv 11) (fun _ _ => rfl)) (pa_cons (pe_callTy (T := "tuple") (r := rTupOf K) call_tuple_of (by rfl) T.tup (by decide +kernel) (pa_cons (pe_call L.GM hr2 (by rfl) L.eM.g L.eM.k L.bM .nil pass0
            (pa_cons (pv 0) (pa_cons (pe_ix (r := rIxL K) ix_list (pv 3) (pv 11) (fun _ _ => rfl)) pa_nil))) pa_nil)) pa_nil))))
      (pss_one (ps_ret (pe_call L.GA hr (by rfl) L.eA.g L.eA.k L.bA .nil pass0 (pa_cons (pv 0) (pa_cons (pv 9) (pa_cons (pe_call L.GR hr1 (by rfl) L.eR.g L.eR.k L.bR .nil pass0 (pa_cons (pv 0) (pa_cons pe_int pa_nil))) pa_nil)))))))))), ?_⟩
    refine ⟨_, rfl, rfl, fun a0 ha0 => ?_⟩
    have s0 := K0.Same.new (.lst (names16.map V.str)) ha0
    have hp0 := hp.same s0
    refine ⟨p, a0, _, rfl, hp0, dice_ne hp0 upd_same (no_int _), upd_same, by decide, fun ys m H1 pm hm em kd1 hp1 => ?_⟩
    obtain ⟨zs, rfl, pz⟩ := strs_map_perm pm
    have zl : zs.length = 16 := pz.length_eq
    refine ⟨8, rfl, m, _, rfl, SqL.of em, fun a ha => ?_⟩
    have e8 : cutV (zs.map V.str) none (some (8 : Int)) = (zs.take 8).map V.str := cutV_take zs 8 (by decide) (by omega)
    rw [e8]
    have pool8 : (zs.take 8).length = 8 := by rw [List.length_take]; omega
    have pool16 : ∀ k ∈ zs.take 8, k ∈ names16 := fun k hk => pz.mem_iff.mp (List.mem_of_mem_take hk)
    generalize zs.take 8 = pool at pool8 pool16
    have s2 := K0.Same.new (.lst (pool.map V.str)) ha
    have kd2 : Kd p H _ := ((Kd.of s0).tr kd1).tr (Kd.of s2)
    have hp2 := hp1.same s2
    have ea2 : upd H1 a (.lst (pool.map V.str)) a = some (.lst (pool.map V.str)) := upd_same
    have ap : a ≠ p := dice_ne hp2 ea2 (no_int _)
    have ha0' : H a = none := none_back s0 (none_kd hp0 hp1 kd1 ha)
    generalize upd H1 a (.lst (pool.map V.str)) = H2 at kd2 hp2 ea2
    refine ⟨_, rfl, p, _, rfl, hp2, by decide, by decide, fun r H3 r0 r1 kd3 hp3 => ⟨_, _, rfl, rfl, 1 + r, rfl, by omega, by omega, fun D hD => lc_it walk_range (fun i H' => ∃ acc ps, PopI H3 a D pool pool.length acc ps H' ∧ acc.length = i)
      ⟨[], pool, PopI.start (kd3 _ _ ap ea2) hD (fun k hk => hk), rfl⟩ (fun _ _ _ _ => True.intro) ?_ ?_⟩⟩
    · rintro i x H4 H5 hi ⟨acc, ps, pi, len⟩ ⟨rfl, rfl⟩
      have pl := pi.len
      obtain ⟨y, h1, h2, h3⟩ := pi.pop (fun e => by rw [e] at pl; simp at pl; omega)
      refine ⟨rfl, ?_⟩
      dsimp only [tYes]
      rw [if_pos rfl]
      exact ⟨_, rfl, .inl ⟨rfl, _, SqL.of pi.pt⟩, a, _, _, rfl, rfl, pi.pt, h1, _, h2, by rw [List.length_map, sizeLine_eq]; omega, acc ++ [y], _, h3, by rw [List.length_append, len]; rfl⟩
    · rintro H4 ⟨acc, ps, pi, len⟩
      refine ⟨by show 1 ≤ sizeLine; decide, fun sA hsA => ?_⟩
      have s5 := K0.Same.new (.lst [.ref D]) hsA
      have hp4 : DiceAt H4 p := by
        obtain ⟨x, y, z, e⟩ := hp3
        exact ⟨x, y, z, pi.kd _ _ ap.symm e⟩
      have hp5 := hp4.same s5
      have sAp : sA ≠ p := fun e => by
        obtain ⟨x, y, z, u⟩ := hp4
        rw [← e, hsA] at u
        cases u
      have kd5 : Kd p H _ := fun b o nb e => s5 _ _ (pi.kd b o (ne_of_none e ha0') (kd3 _ _ nb (kd2 _ _ nb e)))
      have a5 := s5 _ _ pi.pt
      have D5 := s5 _ _ pi.dt
      have sA0 : H sA = none := by
        cases e : H sA with
        | none => rfl
        | some o =>
          have z := pi.kd sA o (ne_of_none e ha0') (kd3 _ _ sAp (kd2 _ _ sAp e))
          rw [z] at hsA
          cases hsA
      have asA : a ≠ sA := ne_of_none pi.pt hsA
      have DsA : D ≠ sA := ne_of_none pi.dt hsA
      have sA5 : upd H4 sA (.lst [.ref D]) sA = some (.lst [.ref D]) := upd_same
      generalize upd H4 sA (.lst [.ref D]) = H5 at hp5 kd5 a5 D5 sA5
      refine ⟨_, rfl, _, rfl, p, _, rfl, hp5, by omega, by omega, fun r5 H6 r50 r51 kd6 hp6 => ⟨r5, rfl, by omega, by omega, for_range (n := r5.toNat)
        (TreeInv H p a sA most pool)
        ⟨none, none, none, none, [D], ps, rfl, Kd.tr kd5 kd6, hp6, kd6 _ _ ap a5, kd6 _ _ sAp sA5, rfl, (fun z => pi.ne (List.mem_singleton.mp z)), (fun z => DsA (List.mem_singleton.mp z).symm), ?_, pi.ps_in⟩ ?_ ?_⟩⟩
      · intro l hl
        rw [List.mem_singleton.mp hl]
        have Dp : D ≠ p := dice_ne hp5 D5 (no_int _)
        exact ⟨acc, kd6 _ _ Dp D5, by rw [len]; omega, by have := pi.len; omega, pi.acc_in⟩
      · rintro i σ H7 hi ⟨v4, v5, v6, v7, ls, ps7, rfl, kd7, hp7, a7, sA7, len7, nal, nsl, sets7, ps_in⟩
        refine ⟨_, rfl, _, rfl, p, sA, _, rfl, hp7, sAp, sA7, by rw [List.length_map]; omega, by rw [List.length_map]; omega, fun v H8 hv kd8 hp8 => ?_⟩
        obtain ⟨l, hl, rfl⟩ := List.mem_map.mp hv
        have sets8 := sets7.kd hp7 kd8
        obtain ⟨xs, ex, f0, f1, f2⟩ := sets8 l hl
        have lp : l ≠ p := dice_ne hp8 ex (no_int _)
        refine ⟨_, rfl, _, rfl, p, l, _, rfl, hp8, lp, ex, by rw [List.length_map]; omega, fun ys9 m9 H9 pm9 hm9 em9 kd9 hp9 => ?_⟩
        obtain ⟨zs9, rfl, pz9⟩ := strs_map_perm pm9
        have zl9 := pz9.length_eq
        have m9p : m9 ≠ p := dice_ne hp9 em9 (no_int _)
        refine ⟨_, rfl, _, rfl, l, _, rfl, .inl (SqL.of (kd9 _ _ lp ex)), _, _, rfl, rfl, p, _, rfl, hp9, by rw [List.length_map]; omega, by rw [List.length_map]; omega, fun r10 H10 r100 r101 kd10 hp10 => ⟨r10, rfl, m9, _, rfl, SqL.of (kd10 _ _ m9p em9), fun kA hkA => ?_⟩⟩
        rw [List.length_map] at r101
        rw [cutV_take zs9 r10 r100 (by omega)]
        have kept_in : ∀ k ∈ zs9.take r10.toNat, k ∈ pool := fun k hk => f2 k (pz9.mem_iff.mp (List.mem_of_mem_take hk))
        have kept_len : (zs9.take r10.toNat).length ≤ xs.length := by rw [List.length_take]; omega
        generalize zs9.take r10.toNat = kept at kept_in kept_len
        have kAa : kA ≠ a := (ne_of_none (kd10 _ _ ap (kd9 _ _ ap (kd8 _ _ ap a7))) hkA).symm
        have s11 := K0.Same.new (.lst (kept.map V.str)) hkA
        have hp11 := hp10.same s11
        have K11 := (kd8.tr kd9).tr (kd10.tr (Kd.of s11))
        have K9 := kd9.tr (kd10.tr (Kd.of s11))
        have ekA : upd H10 kA (.lst (kept.map V.str)) kA = some (.lst (kept.map V.str)) := upd_same
        have kAp : kA ≠ p := dice_ne hp11 ekA (no_int _)
        generalize upd H10 kA (.lst (kept.map V.str)) = H11 at hp11 K11 K9 ekA
        refine ⟨_, rfl, p, _, rfl, hp11, by decide, by decide, fun r12 H12 r120 r121 kd12 hp12 => ⟨r12, rfl, by omega, by omega, fun D2 hD2 => lc_it walk_range (fun i H' => ∃ acc ps', PopI H12 a D2 pool ps7.length acc ps' H' ∧ acc.length ≤ i)
          ⟨[], ps7, PopI.start (kd12 _ _ ap (K11 _ _ ap a7)) hD2 ps_in, Nat.le_refl _⟩ (fun _ _ _ _ => True.intro) ?_ ?_⟩⟩
        · rintro i2 x H13 H14 hi2 ⟨acc2, ps2, pi2, len2⟩ ⟨rfl, rfl⟩
          refine ⟨rfl, _, rfl, by show 0 ≤ sizeLine; decide, fun b hb => ne_nil_strs (xs := ps2) (K0.Same.new _ hb _ _ pi2.pt) upd_same (fun k hk => pool16 k (pi2.ps_in k hk)) ⟨_, rfl, ?_⟩⟩
          have pi3 := pi2.same (K0.Same.new (.lst []) hb)
          by_cases c : ps2 ≠ []
          · obtain ⟨y, h1, h2, h3⟩ := pi3.pop c
            exact if_pos_of (decide_eq_true c) ⟨_, rfl, .inl ⟨rfl, _, SqL.of pi3.pt⟩, a, _, _, rfl, rfl, pi3.pt, h1, _, h2, by rw [List.length_map, sizeLine_eq]; omega, acc2 ++ [y], _, h3, by rw [List.length_append]; simp only [List.length_cons, List.length_nil]; omega⟩
          · exact if_neg_of (decide_eq_false c) ⟨acc2, ps2, pi3, by omega⟩
        · rintro H13 ⟨fresh, ps2, pi2, len2⟩
          have pl2 := pi2.len
          have K13 : Kd2 p a H7 H13 := (Kd2.l (K11.tr kd12)).tr (Kd2.r pi2.kd)
          have hp13 : DiceAt H13 p := by
            obtain ⟨x, y, z, e⟩ := hp12
            exact ⟨x, y, z, pi2.kd _ _ ap.symm e⟩
          have ek13 := pi2.kd _ _ kAa (kd12 _ _ kAp ekA)
          have sA13 := K13 _ _ sAp asA.symm sA7
          have D2p : D2 ≠ p := dice_ne hp13 pi2.dt (no_int _)
          have sets13 := sets7.kd2 hp7 nal K13
          have la : l ≠ a := fun z => nal (by rw [← z]; exact hl)
          have l13 : H13 l = some (.lst (xs.map V.str)) := (Kd2.tr (Kd2.l (K9.tr kd12)) (Kd2.r pi2.kd)) _ _ lp la ex
          have fin : ∀ (H15 : Hp) (c2 : Addr) (new : List Str) (v4 v5 v6 v7 : Option V), Same H13 H15 → H15 c2 = some (.lst (new.map V.str)) → c2 ≠ a → c2 ≠ sA → Popped pool ps2 new →
              TreeInv H p a sA most pool (i + 1) [some (.ref p), some (.int most), some (.ref a), some (.ref sA), v4, v5, v6, v7, none, none, none, none] (upd H15 sA (.lst (ls.map V.ref ++ [V.ref c2]))) := by
            intro H15 c2 new v4 v5 v6 v7 s15 e15 na ns pop
            have hp15 := hp13.same s15
            have sets15 : Sets H15 ls (Popped pool ps2) := (sets13.same s15).weak fun xs h => ⟨h.1, by have := h.2.1; omega, h.2.2⟩
            have nsl2 : sA ∉ ls ++ [c2] := fun z => by
              rcases List.mem_append.mp z with z | z
              · exact nsl z
              · exact ns (List.mem_singleton.mp z).symm
            refine ⟨v4, v5, v6, v7, ls ++ [c2], ps2, rfl, fun b o nb e => ?_, hp15.up sAp.symm, ?_, ?_, by rw [List.length_append, len7]; rfl, fun z => ?_, nsl2, (sets15.snoc (l := c2) e15 pop).off nsl2, pi2.ps_in⟩
            · rw [upd_ne (ne_of_none e sA0)]
              exact s15 _ _ (K13 _ _ nb (ne_of_none e ha0') (kd7 _ _ nb e))
            · rw [upd_ne asA]
              exact s15 _ _ pi2.pt
            · rw [upd_same, List.map_append]
              rfl
            · rcases List.mem_append.mp z with z | z
              · exact nal z
              · exact na (List.mem_singleton.mp z).symm
          have small : (kept.map V.str).length + (fresh.map V.str).length ≤ sizeLine := by rw [List.length_map, List.length_map, sizeLine_eq]; omega
          have lsm : (ls.map V.ref).length ≤ 1000 := by rw [List.length_map]; omega
          refine ⟨_, rfl, .inl ⟨rfl, _, SqL.of sA13⟩, _, rfl, _, rfl, kA, D2, _, _, rfl, rfl, ek13, pi2.dt, small, fun c hc => ⟨by show 0 ≤ sizeLine; decide, fun b hb => ?_⟩⟩
          have sc := K0.Same.new (.lst (kept.map V.str ++ fresh.map V.str)) hc
          have sb := K0.Same.new (.lst []) hb
          have ec : upd (upd H13 c (.lst (kept.map V.str ++ fresh.map V.str))) b (.lst []) c = some (.lst ((kept ++ fresh).map V.str)) := by
            rw [List.map_append]
            exact sb _ _ upd_same
          have s14 := K0.Same.tr sc sb
          refine ne_nil_strs (xs := kept ++ fresh) ec upd_same (fun k hk => ?_) ⟨_, rfl, ?_⟩
          · rcases List.mem_append.mp hk with z | z
            · exact pool16 k (kept_in k z)
            · exact pool16 k (pi2.acc_in k z)
          by_cases cc : kept ++ fresh ≠ []
          · refine if_pos_of (decide_eq_true cc) ⟨_, rfl, _, rfl, kA, D2, _, _, rfl, rfl, s14 _ _ ek13, s14 _ _ pi2.dt, small, fun c2 hc2 => ?_⟩
            have s16 := K0.Same.new (.lst (kept.map V.str ++ fresh.map V.str)) hc2
            have s15 := K0.Same.tr s14 s16
            refine ⟨sA, _, _, rfl, rfl, s15 _ _ sA13, small1000 lsm, fin _ c2 (kept ++ fresh) _ _ _ _ s15 (by rw [upd_same, List.map_append]) ?_ ?_ ⟨List.length_pos_iff.mpr cc, by rw [List.length_append]; omega, fun k hk => ?_⟩⟩
            · exact (ne_of_none (s14 _ _ pi2.pt) hc2).symm
            · exact (ne_of_none (s14 _ _ sA13) hc2).symm
            · rcases List.mem_append.mp hk with z | z
              · exact kept_in k z
              · exact pi2.acc_in k z
          · refine if_neg_of (decide_eq_false cc) ⟨_, rfl, 1, rfl, l, _, rfl, SqL.of (s14 _ _ l13), fun c2 hc2 => ?_⟩
            have e1 : cutV (xs.map V.str) none (some (1 : Int)) = (xs.take 1).map V.str := cutV_take xs 1 (by decide) (by omega)
            rw [e1]
            have s16 := K0.Same.new (.lst ((xs.take 1).map V.str)) hc2
            have s15 := K0.Same.tr s14 s16
            have f0' : 0 < xs.length := f0
            refine ⟨sA, _, _, rfl, rfl, s15 _ _ sA13, small1000 lsm, fin _ c2 (xs.take 1) _ _ _ _ s15 upd_same ?_ ?_ ⟨by rw [List.length_take]; omega, by rw [List.length_take]; omega, fun k hk => f2 k (List.mem_of_mem_take hk)⟩⟩
            · exact (ne_of_none (s14 _ _ pi2.pt) hc2).symm
            · exact (ne_of_none (s14 _ _ sA13) hc2).symm
      · rintro σ H7 ⟨v4, v5, v6, v7, ls, ps7, rfl, kd7, hp7, a7, sA7, len7, nal, nsl, sets7, ps_in⟩
        refine ⟨_, rfl, tabLine, rfl, by decide +kernel, fun tA htA => ?_⟩
        have sT := K0.Same.new (.lst ((lettersOf tabLine).map V.str)) htA
        have hp8 := hp7.same sT
        refine ⟨p, tA, _, rfl, hp8, dice_ne hp8 upd_same (no_int _), upd_same, by decide +kernel, fun ys nA H9 pm9 hm9 eN kd9 hp9 => ?_⟩
        obtain ⟨zs9, rfl, pz9⟩ := strs_map_perm pm9
        have z8 : zs9.length = 8 := pz9.length_eq.trans tab_len
        have nN : nA ≠ p := dice_ne hp9 eN (no_int _)
        have sA9 := kd9 _ _ sAp (sT _ _ sA7)
        have sets9 := (sets7.same sT).kd hp8 kd9
        refine ⟨_, rfl, sA, _, rfl, .inl (SqL.of sA9), _, rfl, by omega, by rw [List.length_map]; omega, fun D2 hD2 => ?_⟩
        have D2p : D2 ≠ p := fun e => by
          obtain ⟨x, y, z, u⟩ := hp9
          rw [← e, hD2] at u
          cases u
        refine lc_rollR (p := p) walk_range (RowAt zs9 pool D2 p) RowAt.mono (small1000 (by rw [List.length_map]; omega)) hD2 hp9 (fun _ _ _ => True.intro) ?_ gName_mono ?_
        · rintro i x H10 H11 hi kd10 hp10 eD ⟨rfl, rfl⟩
          have hi' : i < ls.length := by
            have z : ((((ls.map V.ref).length : Nat) : Int)).toNat = ls.length := by rw [List.length_map]; rfl
            omega
          refine ⟨rfl, fun Q' q => row_step (zs := zs9) (pool := pool) (nA := nA) (sA := sA) (i := i) (fun H Q q => ⟨_, rfl, q⟩) (fun H Q q => ⟨_, rfl, q⟩) (fun H Q q => ⟨_, rfl, q⟩) (fun H Q q => ⟨_, rfl, q⟩) hi' hp10 D2p eD (kd10 _ _ nN eN) nN (by omega) (kd10 _ _ sAp sA9) sAp
            ((sets9.kd hp9 kd10).weak fun xs h => ⟨h.1, by have := h.2.1; omega, h.2.2⟩) fun y H4 g1 g2 g3 => q y H4 g1 g2 g3⟩
        · intro H10 acc10 kd10 hp10 hD10 len10 hall
          obtain ⟨ts, cs, rfl, cl, hcs⟩ := rows_at acc10 zs9 hall
          have clen : cs.length = r5.toNat + 1 := by
            rw [← cl.len, ← List.length_map (f := V.ref), len10, List.length_map]
            show ((ls.length : Nat) : Int).toNat = _
            omega
          have g : GoodQ cs := good_rows (fun e => by rw [e] at clen; simp at clen) (by omega) (by omega) pool16 pz9 hcs
          exact ⟨_, rfl, _, rfl, _, rfl, p, _, rfl, hp10, by decide, by decide, fun r8 H11 r80 r81 kd11 hp11 => ask_good (E := E0) hp (kd7.tr ((Kd.of sT).tr (kd9.tr (kd10.tr kd11)))) hp11 (kd11 _ _ D2p hD10) (cl.kd hp10 kd11).ins g k⟩
end
end K0

/-! ## Q7 -/
set_option maxRecDepth 100000
set_option maxHeartbeats 4000000
namespace K0
open PySem L2 NS
def Lim (pool : List Str) (n : Nat) (xs : List Str) : Prop := 0 < xs.length ∧ xs.length ≤ n ∧ ∀ k ∈ xs, k ∈ pool
def SetR (F : List Str → Prop) (D p : Addr) : Nat → V → Hp → Prop := fun _ y H => ∃ (l : Addr) (xs : List Str), y = V.ref l ∧ l ≠ p ∧ l ≠ D ∧ H l = some (.lst (xs.map V.str)) ∧ F xs
theorem SetR.mono {F : List Str → Prop} {D p : Addr} : ∀ i y H H', SetR F D p i y H → Kd2 p D H H' → SetR F D p i y H' := by
  rintro i y H H' ⟨l, xs, e, n1, n2, h, f⟩ k
  exact ⟨l, xs, e, n1, n2, k _ _ n1 n2 h, f⟩
theorem sets_of {F : List Str → Prop} {D p : Addr} {H : Hp} : ∀ acc : List V, (∀ (i : Nat) (y : V), acc[i]? = some y → SetR F D p i y H) → ∃ ls : List Addr, acc = ls.map V.ref ∧ Sets H ls F
  | [], _ => ⟨[], rfl, fun l h => by cases h⟩
  | y :: acc, h => by
    obtain ⟨l, xs, rfl, _, _, e, f⟩ := h 0 y rfl
    obtain ⟨ls, rfl, r⟩ := sets_of acc fun i u hu => h (i + 1) u hu
    refine ⟨l :: ls, rfl, fun m hm => ?_⟩
    rcases List.mem_cons.mp hm with z | z
    · rw [z]
      exact ⟨xs, e, f⟩
    · exact r m z
theorem at_any {α : Type} {xs : List α} {j : Int} (h0 : -1 ≤ j) (h1 : j < xs.length) (ne : 0 < xs.length) : ∃ x ∈ xs, atI xs j = some x := by
  by_cases c : 0 ≤ j
  · have hj : j.toNat < xs.length := by omega
    have e : atI xs ((j.toNat : Nat) : Int) = some xs[j.toNat] := atI_nat (List.getElem?_eq_getElem hj)
    rw [Int.toNat_of_nonneg c] at e
    exact ⟨_, List.getElem_mem hj, e⟩
  · have ej : j = -1 := by omega
    subst ej
    have hl : xs.length - 1 < xs.length := by omega
    refine ⟨xs[xs.length - 1], List.getElem_mem hl, ?_⟩
    unfold atI ixN
    rw [if_neg (by decide), if_pos (by omega)]
    have e2 : ((-1 : Int) + (xs.length : Int)).toNat = xs.length - 1 := by omega
    rw [e2]
    exact List.getElem?_eq_getElem hl
theorem at_map {xs : List Str} {j : Int} {x : Str} (h : atI xs j = some x) : atI (xs.map V.str) j = some (V.str x) := by
  unfold atI at h ⊢
  rw [List.length_map]
  cases e : ixN xs.length j with
  | none => rw [e] at h; cases h
  | some k =>
    rw [e] at h
    have h2 : xs[k]? = some x := h
    show (xs.map V.str)[k]? = _
    rw [List.getElem?_map, h2]
    rfl
theorem cutV_mid (xs : List Str) (lo hi : Int) (h0 : 0 ≤ lo) (h1 : lo ≤ hi) (h2 : hi ≤ xs.length) : cutV (xs.map V.str) (some lo) (some hi) = ((xs.drop lo.toNat).take (hi.toNat - lo.toNat)).map V.str := by
  obtain ⟨n, rfl⟩ := Int.eq_ofNat_of_zero_le h0
  obtain ⟨m, rfl⟩ := Int.eq_ofNat_of_zero_le (Int.le_trans h0 h1)
  unfold cutV
  have e1 : HT.sIx (xs.map V.str).length 0 (some (n : Int)) = n := by
    rw [HT.sIx_nat, List.length_map]
    have : (n : Int) ≤ (m : Int) := h1
    have : (m : Int) ≤ xs.length := h2
    omega
  have e2 : HT.sIx (xs.map V.str).length (xs.map V.str).length (some (m : Int)) = m := by
    rw [HT.sIx_nat, List.length_map]
    have : (m : Int) ≤ xs.length := h2
    omega
  rw [List.map_take, List.map_drop]
  have e3 : ((n : Int)).toNat = n := rfl
  have e4 : ((m : Int)).toNat = m := rfl
  rw [e3, e4]
  have key : ∀ a b a' b' : Nat, a = a' → b = b' → ((xs.map V.str).drop a).take (b - a) = ((xs.map V.str).drop a').take (b' - a') := by
    rintro a b a' b' rfl rfl
    rfl
  exact key _ _ _ _ e1 e2
theorem if_join {c : Bool} {A : Prop} {R : L2.St → Hp → Prop} {σ : L2.St} {H : Hp} (I : L2.St → Hp → Prop) (h : ∀ σ H, I σ H → R σ H) (h1 : c = true → (∀ σ H, I σ H → R σ H) → A) (h2 : c = false → I σ H) : if c = true then A else R σ H := by
  cases c with
  | true => exact if_pos_of rfl (h1 rfl h)
  | false => exact if_neg_of rfl (h _ _ (h2 rfl))
theorem if_both {c : Bool} {A B : Prop} (h1 : c = true → A) (h2 : c = false → B) : if c = true then A else B := by
  cases c with
  | true => exact if_pos_of rfl (h1 rfl)
  | false => exact if_neg_of rfl (h2 rfl)
def KnotI (H : Hp) (p m kA mA : Addr) (size : Int) (knot more : List Str) (n : Nat) (σ : L2.St) (H' : Hp) : Prop := ∃ (sA : Addr) (ls : List Addr), σ = [some (.ref p), some (.ref m), some (.int size), some (.ref kA), some (.ref mA), some (.ref sA), none, none, none, none] ∧
  Kd p H H' ∧ DiceAt H' p ∧ H' kA = some (.lst (knot.map V.str)) ∧ H' mA = some (.lst (more.map V.str)) ∧ H' sA = some (.lst (ls.map V.ref)) ∧ sA ≠ p ∧ H sA = none ∧ Sets H' ls (Lim (knot ++ more) n) ∧ 3 ≤ ls.length ∧ ls.length ≤ n
theorem ne_content {H : Hp} {a b : Addr} {xs : List Str} {ls : List Addr} (ha : H a = some (.lst (xs.map V.str))) (hb : H b = some (.lst (ls.map V.ref))) (h : 0 < ls.length) : a ≠ b := fun e => by
  rw [e, hb] at ha
  injection ha with ha
  injection ha with ha
  cases ls with
  | nil => cases h
  | cons l ls =>
    cases xs with
    | nil => cases ha
    | cons x xs =>
      injection ha with h1 _
      cases h1
theorem sets_off {H : Hp} {ls ms : List Addr} {F : List Str → Prop} {b : Addr} (s : Sets H ls F) (hb : H b = some (.lst (ms.map V.ref))) (h : 0 < ms.length) : b ∉ ls := fun z => by
  obtain ⟨xs, e, _⟩ := s b z
  exact ne_content e hb h rfl
theorem knot_test {σ : L2.St} {H : Hp} {p : Addr} {v : Int} {K : Bool → Hp → Prop} {tV tP : TE} {E : XK} (hV : ∀ (H : Hp) (Q : VK), Q (.int v) H → tV σ H Q) (hP : ∀ (H : Hp) (Q : VK), Q (.ref p) H → tP σ H Q) (hp : DiceAt H p) (h : ∀ c H', Kd p H H' → DiceAt H' p → K c H') :
    tAnd (tTest (tOp rEq tV (tC (V.int 4)))) (tTest (tOp rEq (tCall spRoll [] E (tCons tP (tCons (tC (V.int 2)) tNil))) (tC (V.int 0)))) σ H K := by
  refine hV _ _ ⟨rfl, _, rfl, if_both (fun _ => ?_) (fun _ => h _ _ Kd.rfl' hp)⟩
  exact hP _ _ ⟨p, _, rfl, hp, by decide, by decide, fun r H' r0 r1 kd hp' => ⟨rfl, _, rfl, h _ _ kd hp'⟩⟩
theorem filter_some {knot : List Str} {g : Str} (n : knot.Nodup) (h : 2 ≤ knot.length) : 0 < (knot.filter fun k => !decide (k = g)).length := by
  match knot, n, h with
  | x :: y :: r, n, _ =>
    have xy : x ≠ y := fun e => (List.nodup_cons.mp n).1 (by rw [e]; exact List.mem_cons_self)
    have : ∃ z ∈ x :: y :: r, z ≠ g := by
      by_cases c : x = g
      · exact ⟨y, List.mem_cons_of_mem _ List.mem_cons_self, fun e => xy (c.trans e.symm)⟩
      · exact ⟨x, List.mem_cons_self, c⟩
    obtain ⟨z, hz, ne⟩ := this
    exact List.length_pos_of_mem (List.mem_filter.mpr ⟨hz, by simp [ne]⟩)
theorem row_step2 {K : PySem.W.Frag} {zs pool : List Str} {D p nA sA : Addr} {ls : List Addr} {σ : L2.St} {tN tAt tS : TE} {i : Nat} {H : Hp} (hN : ∀ (H : Hp) (Q : VK), Q (.ref nA) H → tN σ H Q) (hA : ∀ (H : Hp) (Q : VK), Q (.int (0 + (i : Int))) H → tAt σ H Q)
    (hS : ∀ (H : Hp) (Q : VK), Q (.ref sA) H → tS σ H Q) (hi : i < ls.length) (dc : DiceAt H p) (Dp : D ≠ p) (eD : ∃ acc, H D = some (.lst acc)) (eN : H nA = some (.lst (zs.map V.str))) (hz : ls.length ≤ zs.length)
    (eS : H sA = some (.lst (ls.map V.ref))) (sets : Sets H ls (okCols pool)) {Q : VK} (q : ∀ y H4, Kd p H H4 → DiceAt H4 p → RowAt zs pool D p i y H4 → Q y H4) :
    tTup (tCons (tOp (rIxL K) tN tAt) (tCons (tCB (rTupOf K) (tCons (tOp (rIxL K) tS tAt) tNil)) tNil)) σ H Q := by
  have hiz : i < zs.length := Nat.lt_of_lt_of_le hi hz
  have z0 : (0 + (i : Int)) = ((i : Nat) : Int) := by omega
  have a1 : atI (zs.map V.str) (0 + (i : Int)) = some (V.str zs[i]) := by
    rw [z0]
    exact atI_nat (by rw [List.getElem?_map, List.getElem?_eq_getElem hiz]; rfl)
  have a2 : atI (ls.map V.ref) (0 + (i : Int)) = some (V.ref ls[i]) := by
    rw [z0]
    exact atI_nat (by rw [List.getElem?_map, List.getElem?_eq_getElem hi]; rfl)
  obtain ⟨xs, ex, ok⟩ := sets ls[i] (List.getElem_mem hi)
  refine hN _ _ (hA _ _ ⟨nA, _, _, _, rfl, rfl, SqL.of eN, a1, hS _ _ (hA _ _ ⟨sA, _, _, _, rfl, rfl, SqL.of eS, a2, ls[i], _, rfl, .inl ⟨SqL.of ex, fun t2 ht2 => ⟨by show 2 ≤ sizeLine; decide, fun t ht => ?_⟩⟩⟩)⟩)
  have s3 := K0.Same.new (.tup (xs.map V.str)) ht2
  have s4 := K0.Same.new (.tup [.str zs[i], .ref t2]) ht
  obtain ⟨acc, eD⟩ := eD
  have dice_no : ∀ {H : Hp} {b : Addr}, DiceAt H p → H b = none → b ≠ p := fun {H b} d h e => by
    obtain ⟨x, y, z, u⟩ := d
    rw [e, u] at h
    cases h
  have no : ∀ {H : Hp} {b : Addr}, H D = some (.lst acc) → H b = none → b ≠ D := fun {H b} d h e => by
    rw [e, d] at h
    cases h
  exact q _ _ ((Kd.of s3).tr (Kd.of s4)) ((dc.same s3).same s4) ⟨t, t2, (zs[i], xs), rfl, List.getElem?_eq_getElem hiz, ok,
    dice_no (dc.same s3) ht, no (s3 _ _ eD) ht, dice_no dc ht2, no eD ht2, upd_same, s4 _ _ upd_same⟩
abbrev scGone : Scope := { kind := ScopeKind.function, names := [(".0", NameKind.local), ("_law_gone", NameKind.cell), ("_law_knot", NameKind.cell)], isGenerator := false, isCoroutine := false }
abbrev sKnotted : Stmt := top 45
def spKnotted : Sp := fun vs H Q _ => ∃ (p : Addr), vs = [.ref p] ∧ DiceAt H p ∧ GiveQ H p Q
section
variable {P : Program} {w : World} {K : PySem.W.Frag} {mg : Str → Option Value} {base : Heap} {fR fP fM fN fA : Addr} {fdR fdP fdM fdN fdA : FuncData}
abbrev nKnot : List Str := ["_law_dice_here", "_law_names_here", "_law_size", "_law_knot", "_law_more", "_law_sets", "_law_tables", "_law_at", "_law_one", "_law_gone"]
theorem scKnot : FnScope nKnot ["_law_dice_here"] (defScope sKnotted) := ⟨rfl, rfl, rfl, by decide +kernel, rfl, by decide +kernel, by decide +kernel⟩
theorem ok_knotted {f : Addr} {fd : FuncData} (F : Fun K "_law_knotted" "_law_knotted" sKnotted f fd) (T : TD K mg) (L : LD P w K mg base fR fP fM fN fA fdR fdP fdM fdN fdA) :
    FnOk P w K mg base CX0 4 f fd ["_law_dice_here"] spKnotted := by
  refine F.ok scKnot (fun vs H Q E h => ?_) (fun cdv A outer s H vs Q E hr h => ?_)
  · obtain ⟨p, rfl, _⟩ := h
    rfl
  · obtain ⟨p, rfl, hp, k⟩ := h
    have hr1 : Room 1 _ := hr.mono (by decide)
    have hr2 : Room 2 _ := hr.mono (by decide)
    refine ⟨_, pss_cons (ps_set (i := 1) scKnot.nd rfl (Or.inl rfl) (pe_call L.GM hr2 (by rfl) L.eM.g L.eM.k L.bM .nil pass0 (pa_cons (pv 0) (pa_cons (pe_call0 L.GN hr1 (by rfl) L.eN.g L.eN.k L.bN .nil pass0) pa_nil))))
      (pss_cons (ps_set (i := 2) scKnot.nd rfl (Or.inl rfl) (pe_op op_add pe_int (pe_call L.GR hr1 (by rfl) L.eR.g L.eR.k L.bR .nil pass0 (pa_cons (pv 0) (pa_cons pe_int pa_nil)))))
      (pss_cons (ps_asg (pe_tup (pa_cons (pe_slice sl_list (pv 1) po_none (po_some (pv 2))) (pa_cons (pe_slice sl_list (pv 1) (po_some (pv 2)) (po_some (pe_op op_add (pv 2) pe_int))) pa_nil)))
          (pg_tup rfl (pgs_cons (pg_name (i := 3) scKnot.nd rfl (Or.inr rfl)) (pgs_cons (pg_name (i := 4) scKnot.nd rfl (Or.inr rfl)) pgs_nil))))
      (pss_cons (ps_set (i := 5) scKnot.nd rfl (Or.inr rfl) (pe_lc (own := [("_law_at", 7)]) (g := gName 7) (tt := tYes) rfl scKnot.nd (pi_range1 (by rfl) T.range (pa_cons (pv 2) pa_nil))
          (blkOk_by (own := [("_law_at", 7)]) (N := nKnot) (sc := defScope sKnotted) (by decide +kernel)) (fun _ _ _ _ _ => pg_name (i := 7) scKnot.nd rfl (Or.inl rfl)) (fun _ _ _ _ _ => pts_nil)
          (fun _ _ _ _ _ => pe_lst (pa_cons (pe_ix (r := rIxL K) ix_list (pv 3) (pv 7) (fun _ _ => rfl)) (pa_cons (pe_ix (r := rIxL K) ix_list (pv 3) (pe_op op_sub (pv 7) pe_int) (fun _ _ => rfl)) pa_nil)))))
      (pss_cons (ps_if (PW.pt (pw_and (pt_cmpR op_eq (pv 2) pe_int (nomark _)) (pw_and1 (pt_cmpR op_eq (pe_call L.GR hr1 (by rfl) L.eR.g L.eR.k L.bR .nil pass0 (pa_cons (pv 0) (pa_cons pe_int pa_nil))) pe_int (nomark _)))))
        (pss_one (ps_set (i := 5) scKnot.nd rfl (Or.inr rfl) (pe_lc (own := [("_law_gone", 9)]) (g := gName 9) (tt := tYes) (te := tLc (iList K (tVar 3)) (gName 8) (tTest (tOp rNe (tVar 8) (tVar 9))) (tVar 8) [8]) rfl scKnot.nd (pi_list (pv 3))
          (blkOk_by (own := [("_law_gone", 9)]) (N := nKnot) (sc := defScope sKnotted) (by decide +kernel)) (fun _ _ _ _ _ => pg_name (i := 9) scKnot.nd rfl (Or.inr rfl)) (fun _ _ _ _ _ => pts_nil)
          (fun _ _ _ _ _ => pe_lc (own := [("_law_one", 8)]) (wi := iList K (tVar 3)) (g := gName 8) (tt := tTest (tOp rNe (tVar 8) (tVar 9))) (te := tVar 8) rfl scKnot.nd (pi_list (pv 3))
            (blkOk_by (own := [("_law_one", 8)]) (N := nKnot) (sc := scGone) (by decide +kernel)) (fun _ _ _ _ _ => pg_name (i := 8) scKnot.nd rfl (Or.inl rfl)) (fun _ _ _ _ _ => pts_one (pt_cmpR op_ne (pv 8) (pv 9) (nomark _))) (fun _ _ _ _ _ => pv 8))))) pss_nil)
      (pss_cons (ps_set (i := 5) scKnot.nd rfl (Or.inr rfl) (pe_lc (own := [("_law_one", 8)]) (g := gName 8) (tt := tYes) rfl scKnot.nd (pi_list (pv 5))
          (blkOk_by (own := [("_law_one", 8)]) (N := nKnot) (sc := defScope sKnotted) (by decide +kernel)) (fun _ _ _ _ _ => pg_name (i := 8) scKnot.nd rfl (Or.inl rfl)) (fun _ _ _ _ _ => pts_nil)
          (fun _ _ _ _ _ => pe_ifExp (pt_cmpR op_eq (pe_call L.GR hr1 (by rfl) L.eR.g L.eR.k L.bR .nil pass0 (pa_cons (pv 0) (pa_cons pe_int pa_nil))) pe_int (nomark _))
            (pe_op op_cat (pv 8) (pe_lst (pa_cons (pe_call L.GP hr2 (by rfl) L.eP.g L.eP.k L.bP .nil pass0 (pa_cons (pv 0) (pa_cons (pv 4) pa_nil))) pa_nil))) (pv 8))))
      (pss_cons (ps_if (pt_cmpR op_eq (pe_call L.GR hr1 (by rfl) L.eR.g L.eR.k L.bR .nil pass0 (pa_cons (pv 0) (pa_cons pe_int pa_nil))) pe_int (nomark _))
        (pss_one (ps_expr (pe_bm PySem.F.plainAttrs_list PySem.F.slot_list_append PySem.F.type_list_append mt_append (pv 5) (pa_cons (pe_op op_cat (pe_slice sl_list (pv 4) po_none (po_some pe_int))
          (pe_lst (pa_cons (pe_call L.GP hr2 (by rfl) L.eP.g L.eP.k L.bP .nil pass0 (pa_cons (pv 0) (pa_cons (pv 3) pa_nil))) pa_nil))) pa_nil)))) pss_nil)
      (pss_cons (ps_set (i := 6) scKnot.nd rfl (Or.inr rfl) (pe_call L.GM hr2 (by rfl) L.eM.g L.eM.k L.bM .nil pass0 (pa_cons (pv 0) (pa_cons (pe_callTy (T := "list") (cr_listTx rfl) (by rfl) T.list (by decide +kernel) (pa_cons pe_str pa_nil)) pa_nil))))
      (pss_one (ps_ret (pe_call L.GA hr (by rfl) L.eA.g L.eA.k L.bA .nil pass0 (pa_cons (pv 0) (pa_cons (pe_lc (own := [("_law_at", 7)]) (g := gName 7) (tt := tYes) rfl scKnot.nd (pi_range1 (by rfl) T.range (pa_cons (pe_callB call_len_seq (by rfl) T.len PySem.boot_len (pa_cons (pv 5) pa_nil)) pa_nil))
          (blkOk_by (own := [("_law_at", 7)]) (N := nKnot) (sc := defScope sKnotted) (by decide +kernel)) (fun _ _ _ _ _ => pg_name (i := 7) scKnot.nd rfl (Or.inl rfl)) (fun _ _ _ _ _ => pts_nil)
          (fun _ _ _ _ _ => pe_tup (pa_cons (pe_ix (r := rIxL K) ix_list (pv 6) (pv 7) (fun _ _ => rfl)) (pa_cons (pe_callTy (T := "tuple") (r := rTupOf K) call_tuple_of (by rfl) T.tup (by decide +kernel)
            (pa_cons (pe_ix (r := rIxL K) ix_list (pv 5) (pv 7) (fun _ _ => rfl)) pa_nil)) pa_nil))))
          (pa_cons (pe_call L.GR hr1 (by rfl) L.eR.g L.eR.k L.bR .nil pass0 (pa_cons (pv 0) (pa_cons pe_int pa_nil))) pa_nil))))))))))))), ?_⟩
    refine ⟨_, rfl, rfl, fun a0 ha0 => ?_⟩
    have s0 := K0.Same.new (.lst (names16.map V.str)) ha0
    have hp0 := hp.same s0
    refine ⟨p, a0, _, rfl, hp0, dice_ne hp0 upd_same (no_int _), upd_same, by decide, fun ys m H1 pm hm em kd1 hp1 => ?_⟩
    obtain ⟨zs, rfl, pz⟩ := strs_map_perm pm
    have zl : zs.length = 16 := pz.length_eq
    have zn : zs.Nodup := pz.nodup_iff.mpr (by decide +kernel)
    have mp : m ≠ p := dice_ne hp1 em (no_int _)
    refine ⟨_, rfl, p, _, rfl, hp1, by decide, by decide, fun r H2 r0 r1 kd2 hp2 => ⟨_, _, rfl, rfl, ?_⟩⟩
    have em2 := kd2 _ _ mp em
    refine ⟨_, rfl, _, rfl, _, rfl, m, _, rfl, SqL.of em2, fun kA hkA => ⟨_, rfl, _, rfl, _, rfl, _, rfl, _, _, rfl, rfl, _, rfl, m, _, rfl, SqL.of (K0.Same.new _ hkA _ _ em2), fun mA hmA => ⟨by show 2 ≤ sizeLine; decide, fun t ht => ⟨t, _, rfl, SqT.of upd_same, rfl, _, _, rfl, _, _, rfl, rfl, ?_⟩⟩⟩⟩
    have k1 : cutV (zs.map V.str) none (some (3 + r)) = (zs.take (3 + r).toNat).map V.str := cutV_take zs (3 + r) (by omega) (by omega)
    have k2 : cutV (zs.map V.str) (some (3 + r)) (some (3 + r + 2)) = ((zs.drop (3 + r).toNat).take ((3 + r + 2).toNat - (3 + r).toNat)).map V.str := cutV_mid zs (3 + r) (3 + r + 2) (by omega) (by omega) (by omega)
    have sk := K0.Same.new (.lst (cutV (zs.map V.str) none (some (3 + r)))) hkA
    have sm := K0.Same.new (.lst (cutV (zs.map V.str) (some (3 + r)) (some (3 + r + 2)))) hmA
    have st := K0.Same.new (.tup [V.ref kA, V.ref mA]) ht
    have s3 := K0.Same.tr sk (K0.Same.tr sm st)
    have kd3 : Kd p H _ := ((Kd.of s0).tr kd1).tr (kd2.tr (Kd.of s3))
    have hp3 := hp2.same s3
    have ek := st _ _ (sm _ _ (upd_same (H := H2) (a := kA) (o := .lst (cutV (zs.map V.str) none (some (3 + r))))))
    have emo := st _ _ (upd_same (H := upd H2 kA (.lst (cutV (zs.map V.str) none (some (3 + r))))) (a := mA) (o := .lst (cutV (zs.map V.str) (some (3 + r)) (some (3 + r + 2)))))
    generalize upd (upd (upd H2 kA (.lst (cutV (zs.map V.str) none (some (3 + r))))) mA (.lst (cutV (zs.map V.str) (some (3 + r)) (some (3 + r + 2))))) t (.tup [V.ref kA, V.ref mA]) = H3 at kd3 hp3 ek emo
    rw [k1] at ek
    rw [k2] at emo
    have kl : ((zs.take (3 + r).toNat).length : Int) = 3 + r := by rw [List.length_take]; omega
    have ml : ((zs.drop (3 + r).toNat).take ((3 + r + 2).toNat - (3 + r).toNat)).length = 2 := by rw [List.length_take, List.length_drop]; omega
    have kn : (zs.take (3 + r).toNat).Nodup := List.Nodup.sublist (List.take_sublist _ _) zn
    have kin : ∀ x ∈ zs.take (3 + r).toNat, x ∈ names16 := fun x hx => pz.mem_iff.mp (List.mem_of_mem_take hx)
    have min : ∀ x ∈ (zs.drop (3 + r).toNat).take ((3 + r + 2).toNat - (3 + r).toNat), x ∈ names16 := fun x hx => pz.mem_iff.mp (List.mem_of_mem_drop (List.mem_of_mem_take hx))
    generalize zs.take (3 + r).toNat = knot at ek kl kn kin
    generalize (zs.drop (3 + r).toNat).take ((3 + r + 2).toNat - (3 + r).toNat) = more at emo ml min
    have kAp : kA ≠ p := dice_ne hp3 ek (no_int _)
    have mAp : mA ≠ p := dice_ne hp3 emo (no_int _)
    have pool16 : ∀ x ∈ knot ++ more, x ∈ names16 := fun x hx => (List.mem_append.mp hx).elim (kin x) (min x)
    have pool8 : (knot ++ more).length ≤ 8 := by rw [List.length_append]; omega
    have inK : ∀ x ∈ knot, x ∈ knot ++ more := fun x hx => List.mem_append_left _ hx
    have inM : ∀ x ∈ more, x ∈ knot ++ more := fun x hx => List.mem_append_right _ hx
    refine ⟨_, rfl, 3 + r, rfl, by omega, by omega, fun D hD => lc_rollR (p := p) walk_range (SetR (Lim (knot ++ more) 2) D p) SetR.mono (small1000 (by omega)) hD hp3 (fun _ _ _ => True.intro) ?_ gName_mono ?_⟩
    · rintro i x H4 H5 hi kd4 hp4 ⟨acc, eD⟩ ⟨rfl, rfl⟩
      have ek4 := kd4 _ _ kAp ek
      have kp : 0 < knot.length := by omega
      obtain ⟨x1, hx1, a1⟩ := at_any (xs := knot) (j := 0 + (i : Int)) (by omega) (by omega) kp
      obtain ⟨x2, hx2, a2⟩ := at_any (xs := knot) (j := 0 + (i : Int) - 1) (by omega) (by omega) kp
      refine ⟨rfl, fun Q' q => ⟨_, rfl, _, rfl, kA, _, _, _, rfl, rfl, SqL.of ek4, at_map a1, _, rfl, _, rfl, _, _, rfl, rfl, kA, _, _, _, rfl, rfl, SqL.of ek4, at_map a2, by show 2 ≤ sizeLine; decide, fun l hl => ?_⟩⟩
      refine q _ _ (Kd.of (K0.Same.new _ hl)) (hp4.same (K0.Same.new _ hl)) ⟨l, [x1, x2], rfl, ?_, ?_, upd_same, by show 0 < 2; decide, by show 2 ≤ 2; decide, fun k hk => ?_⟩
      · intro e
        obtain ⟨x, y, z, u⟩ := hp4
        rw [e, u] at hl
        cases hl
      · intro e
        rw [e, eD] at hl
        cases hl
      · rcases List.mem_cons.mp hk with z | z
        · rw [z]; exact inK _ hx1
        · rw [List.mem_singleton.mp z]; exact inK _ hx2
    · intro H4 acc kd4 hp4 hD4 len4 hall
      obtain ⟨ls, rfl, sets4⟩ := sets_of acc hall
      rw [List.length_map] at len4
      have Dp : D ≠ p := fun e => by
        obtain ⟨x, y, z, u⟩ := hp3
        rw [← e, hD] at u
        cases u
      have hD0 : H D = none := none_kd hp hp3 kd3 hD
      have llen : (ls.length : Int) = 3 + r := by
        have z : (3 + r).toNat = ls.length := len4.symm
        omega
      dsimp only [gName, tSeq, tIfS]
      refine knot_test (p := p) (v := 3 + r) (fun H Q q => ⟨_, rfl, q⟩) (fun H Q q => ⟨_, rfl, q⟩) hp4 fun c H5 kd5 hp5 => ?_
      have ek5 := kd5 _ _ kAp (kd4 _ _ kAp ek)
      have em5 := kd5 _ _ mAp (kd4 _ _ mAp emo)
      have kd05 := kd3.tr (kd4.tr kd5)
      refine if_join (KnotI H p m kA mA (3 + r) knot more 5) ?_ (fun hc rest => ?_) (fun hc => ?_)
      · rintro σ H6 ⟨sA, ls6, rfl, kd6, hp6, ek6, em6, es6, sAp, sA0, sets6, l60, l61⟩
        refine ⟨_, rfl, sA, rfl, ⟨_, SqL.of es6⟩, fun D2 hD2 => lc_rollR (p := p) walk_list (SetR (Lim (knot ++ more) 6) D2 p) SetR.mono (small1000 (by rw [List.length_map]; omega)) hD2 hp6 (fun H7 kd7 _ => SqL.of (kd7 _ _ sAp es6)) ?_ gName_mono ?_⟩
        · rintro i x H7' H7 hi kd7 hp7 ⟨acc, eD⟩ ⟨rfl, hx⟩
          rw [List.getElem?_map] at hx
          obtain ⟨l, hl, rfl⟩ := Option.map_eq_some_iff.mp hx
          obtain ⟨xs, ex, f0, f1, f2⟩ := sets6 l (List.mem_of_getElem? hl)
          have lp : l ≠ p := dice_ne hp6 ex (no_int _)
          have lD : l ≠ D2 := ne_of_none ex hD2
          have D2p : D2 ≠ p := fun e => by
            obtain ⟨x, y, z, u⟩ := hp6
            rw [← e, hD2] at u
            cases u
          refine ⟨rfl, fun Q' q => ⟨_, rfl, p, _, rfl, hp7, by decide, by decide, fun r8 H8 r80 r81 kd8 hp8 => ⟨rfl, _, rfl, if_both (fun _ => ?_) (fun _ => ?_)⟩⟩⟩
          · have em8 := kd8 _ _ mAp (kd7 _ _ mAp em6)
            refine ⟨_, rfl, _, rfl, _, rfl, p, mA, _, rfl, hp8, mAp, em8, by rw [List.length_map]; omega, by rw [List.length_map]; omega, fun v H9 hv kd9 hp9 => ⟨by show 1 ≤ sizeLine; decide, fun b hb => ?_⟩⟩
            obtain ⟨y, hy, rfl⟩ := List.mem_map.mp hv
            have sb := K0.Same.new (.lst [V.str y]) hb
            have ex9 := sb _ _ (kd9 _ _ lp (kd8 _ _ lp (kd7 _ _ lp ex)))
            have eD9 := sb _ _ (kd9 _ _ D2p (kd8 _ _ D2p eD))
            refine ⟨l, b, _, _, rfl, rfl, ex9, upd_same, by rw [List.length_map, sizeLine_eq]; simp only [List.length_cons, List.length_nil]; omega, fun c hc => ?_⟩
            have sc := K0.Same.new (.lst (xs.map V.str ++ [V.str y])) hc
            have cp : c ≠ p := fun e => by
              obtain ⟨x, y, z, u⟩ := hp9.same sb
              rw [e, u] at hc
              cases hc
            have cD : c ≠ D2 := (ne_of_none eD9 hc).symm
            exact q _ _ (kd8.tr (kd9.tr ((Kd.of sb).tr (Kd.of sc)))) ((hp9.same sb).same sc) ⟨c, xs ++ [y], rfl, cp, cD, by rw [upd_same, List.map_append]; rfl, by rw [List.length_append]; omega, by rw [List.length_append]; simp only [List.length_cons, List.length_nil]; omega, fun k hk => by
              rcases List.mem_append.mp hk with z | z
              · exact f2 k z
              · rw [List.mem_singleton.mp z]
                exact inM y hy⟩
          · exact ⟨_, rfl, q _ _ kd8 hp8 ⟨l, xs, rfl, lp, lD, kd8 _ _ lp (kd7 _ _ lp ex), f0, by omega, f2⟩⟩
        · intro H7 acc kd7 hp7 hD7 len7 hall
          obtain ⟨ls7, rfl, sets7⟩ := sets_of acc hall
          rw [List.length_map, List.length_map] at len7
          have D2p : D2 ≠ p := fun e => by
            obtain ⟨x, y, z, u⟩ := hp6
            rw [← e, hD2] at u
            cases u
          have D20 : H D2 = none := none_kd hp hp6 kd6 hD2
          refine ⟨_, rfl, p, _, rfl, hp7, by decide, by decide, fun r8 H8 r80 r81 kd8 hp8 => ⟨rfl, _, rfl, if_join (KnotI H p m kA mA (3 + r) knot more 6) ?_ (fun hc rest => ?_) (fun hc => ?_)⟩⟩
          · rintro σ H9 ⟨sB, ls9, rfl, kd9, hp9, ek9, em9, es9, sBp, sB0, sets9, l90, l91⟩
            refine ⟨_, rfl, tabLine, rfl, by decide +kernel, fun tA htA => ?_⟩
            have sT := K0.Same.new (.lst ((lettersOf tabLine).map V.str)) htA
            have hpT := hp9.same sT
            refine ⟨p, tA, _, rfl, hpT, dice_ne hpT upd_same (no_int _), upd_same, by decide +kernel, fun ys nA H11 pm11 hm11 eN kd11 hp11 => ?_⟩
            obtain ⟨zs11, rfl, pz11⟩ := strs_map_perm pm11
            have z8 : zs11.length = 8 := pz11.length_eq.trans tab_len
            have nN : nA ≠ p := dice_ne hp11 eN (no_int _)
            have sB11 := kd11 _ _ sBp (sT _ _ es9)
            have sets11 := (sets9.same sT).kd hpT kd11
            refine ⟨_, rfl, _, rfl, sB, _, rfl, .inl (SqL.of sB11), _, rfl, by omega, by rw [List.length_map]; omega, fun D3 hD3 => ?_⟩
            have D3p : D3 ≠ p := fun e => by
              obtain ⟨x, y, z, u⟩ := hp11
              rw [← e, hD3] at u
              cases u
            refine lc_rollR (p := p) walk_range (RowAt zs11 (knot ++ more) D3 p) RowAt.mono (small1000 (by rw [List.length_map]; omega)) hD3 hp11 (fun _ _ _ => True.intro) ?_ gName_mono ?_
            · rintro i x H12' H12 hi kd12 hp12 eD ⟨rfl, rfl⟩
              have hi' : i < ls9.length := by
                have z : ((((ls9.map V.ref).length : Nat) : Int)).toNat = ls9.length := by rw [List.length_map]; rfl
                omega
              refine ⟨rfl, fun Q' q => row_step2 (zs := zs11) (pool := knot ++ more) (nA := nA) (sA := sB) (i := i) (fun H Q q => ⟨_, rfl, q⟩) (fun H Q q => ⟨_, rfl, q⟩) (fun H Q q => ⟨_, rfl, q⟩) hi' hp12 D3p eD (kd12 _ _ nN eN) (by omega) (kd12 _ _ sBp sB11)
                ((sets11.kd hp11 kd12).weak fun xs h => ⟨h.1, by have := h.2.1; omega, h.2.2⟩) fun y H4 g1 g2 g3 => q y H4 g1 g2 g3⟩
            · intro H12 acc12 kd12 hp12 hD12 len12 hall12
              obtain ⟨ts, cs, rfl, cl, hcs⟩ := rows_at acc12 zs11 hall12
              have clen : cs.length = ls9.length := by
                rw [← cl.len, ← List.length_map (f := V.ref), len12, List.length_map]
                rfl
              have g : GoodQ cs := good_rows (fun e => by rw [e] at clen; simp at clen; omega) (by omega) pool8 pool16 pz11 hcs
              exact ⟨_, rfl, p, _, rfl, hp12, by decide, by decide, fun r13 H13 r130 r131 kd13 hp13 => ask_good (E := E0) hp (kd9.tr ((Kd.of sT).tr (kd11.tr (kd12.tr kd13)))) hp13 (kd13 _ _ D3p hD12) (cl.kd hp12 kd13).ins g k⟩
          · have em8 := kd8 _ _ mAp (kd7 _ _ mAp em6)
            have hD8 := kd8 _ _ D2p hD7
            refine ⟨_, rfl, .inl ⟨rfl, _, SqL.of hD8⟩, _, rfl, 1, rfl, mA, _, rfl, SqL.of em8, fun c hc => ?_⟩
            have e1 : cutV (more.map V.str) none (some (1 : Int)) = (more.take 1).map V.str := cutV_take more 1 (by decide) (by omega)
            rw [e1]
            have sc := K0.Same.new (.lst ((more.take 1).map V.str)) hc
            have ec : upd H8 c (.lst ((more.take 1).map V.str)) c = some (.lst ((more.take 1).map V.str)) := upd_same
            have hpc := hp8.same sc
            have cp : c ≠ p := dice_ne hpc ec (no_int _)
            have ekc := sc _ _ (kd8 _ _ kAp (kd7 _ _ kAp ek6))
            refine ⟨_, rfl, _, rfl, p, kA, _, rfl, hpc, kAp, ekc, by rw [List.length_map]; omega, by rw [List.length_map]; omega, fun v H9 hv kd9 hp9 => ⟨by show 1 ≤ sizeLine; decide, fun b hb => ?_⟩⟩
            obtain ⟨y, hy, rfl⟩ := List.mem_map.mp hv
            have sb := K0.Same.new (.lst [V.str y]) hb
            refine ⟨c, b, _, _, rfl, rfl, sb _ _ (kd9 _ _ cp ec), upd_same, by rw [List.length_map, List.length_take, sizeLine_eq]; simp only [List.length_cons, List.length_nil]; omega, fun e he => ?_⟩
            have se := K0.Same.new (.lst ((more.take 1).map V.str ++ [V.str y])) he
            have kdA : Kd p H8 _ := (Kd.of sc).tr (kd9.tr ((Kd.of sb).tr (Kd.of se)))
            have hpe := ((hp9.same sb).same se)
            have hDe := kdA _ _ D2p hD8
            have eke := kdA _ _ kAp (kd8 _ _ kAp (kd7 _ _ kAp ek6))
            have eme := kdA _ _ mAp em8
            have setse := (sets7.kd hp7 kd8).kd hp8 kdA
            have l7 : 0 < ls7.length := by omega
            have eD2 : e ≠ D2 := (ne_of_none (sb _ _ (kd9 _ _ D2p (sc _ _ hD8))) he).symm
            have nin : D2 ∉ ls7 ++ [e] := fun z => by
              rcases List.mem_append.mp z with z | z
              · exact sets_off setse hDe l7 z
              · exact eD2 (List.mem_singleton.mp z).symm
            refine ⟨D2, _, _, rfl, rfl, hDe, small1000 (by rw [List.length_map]; omega), rest _ _ ⟨D2, ls7 ++ [e], rfl, fun b' o nb eo => ?_, hpe.up D2p.symm, ?_, ?_, by rw [upd_same, List.map_append]; rfl, D2p, D20, ?_, by rw [List.length_append]; omega, by rw [List.length_append]; simp only [List.length_cons, List.length_nil]; omega⟩⟩
            · rw [upd_ne (ne_of_none eo D20)]
              exact kdA _ _ nb (kd8 _ _ nb (kd7 _ _ nb (kd6 _ _ nb eo)))
            · rw [upd_ne (ne_content eke hDe l7)]
              exact eke
            · rw [upd_ne (ne_content eme hDe l7)]
              exact eme
            · refine (setse.snoc (l := e) (xs := more.take 1 ++ [y]) (by show _ = _; rw [upd_same, List.map_append]; rfl) ⟨by rw [List.length_append]; simp only [List.length_cons, List.length_nil]; omega, by rw [List.length_append, List.length_take]; simp only [List.length_cons, List.length_nil]; omega, fun k hk => ?_⟩).off nin
              rcases List.mem_append.mp hk with z | z
              · exact inM k (List.mem_of_mem_take z)
              · rw [List.mem_singleton.mp z]
                exact inK y hy
          · exact ⟨D2, ls7, rfl, kd6.tr (kd7.tr kd8), hp8, kd8 _ _ kAp (kd7 _ _ kAp ek6), kd8 _ _ mAp (kd7 _ _ mAp em6), kd8 _ _ D2p hD7, D2p, D20, sets7.kd hp7 kd8, by omega, by omega⟩
      · refine ⟨_, rfl, kA, rfl, ⟨_, SqL.of ek5⟩, fun D2 hD2 => lc_rollR (p := p) walk_list (SetR (Lim (knot ++ more) 5) D2 p) SetR.mono (small1000 (by rw [List.length_map]; omega)) hD2 hp5 (fun H6 kd6 _ => SqL.of (kd6 _ _ kAp ek5)) ?_ gName_mono ?_⟩
        · rintro i x H6' H6 hi kd6 hp6 ⟨acc, eD⟩ ⟨rfl, hx⟩
          rw [List.getElem?_map] at hx
          obtain ⟨gone, hg, rfl⟩ := Option.map_eq_some_iff.mp hx
          have ek6 := kd6 _ _ kAp ek5
          refine ⟨rfl, fun Q' q => ⟨_, rfl, kA, rfl, ⟨_, SqL.of ek6⟩, fun D3 hD3 => lc_it walk_list (fun i H' => Same H6 H' ∧ H' D3 = some (.lst (((knot.take i).filter fun k => !decide (k = gone)).map V.str)))
            ⟨K0.Same.new _ hD3, upd_same⟩ (fun i H' _ s => SqL.of (s.1 _ _ ek6)) ?_ ?_⟩⟩
          · rintro j y H8' H8 hj ⟨s8, e8⟩ ⟨rfl, hy⟩
            rw [List.getElem?_map] at hy
            obtain ⟨one, ho, rfl⟩ := Option.map_eq_some_iff.mp hy
            have tk : knot.take (j + 1) = knot.take j ++ [one] := by rw [List.take_add_one, ho]; rfl
            refine ⟨rfl, _, rfl, _, rfl, rfl, _, rfl, if_both (fun h => ?_) (fun h => ?_)⟩
            · have ne : (!decide (one = gone)) = true := by
                have z : decide (V.str one = V.str gone) = false := by
                  cases q : decide (V.str one = V.str gone) with
                  | false => rfl
                  | true => rw [q] at h; cases h
                have z2 : ¬ one = gone := fun e => absurd (decide_eq_true (congrArg V.str e)) (by rw [z]; exact Bool.false_ne_true)
                simp [z2]
              have fl := List.length_filter_le (fun k => !decide (k = gone)) (knot.take j)
              have fl2 := List.length_take_le j knot
              have fl3 : (knot.take j).length ≤ knot.length := by rw [List.length_take]; omega
              refine ⟨_, rfl, _, e8, by rw [List.length_map, sizeLine_eq]; omega, fun b o e => ?_, ?_⟩
              · rw [upd_ne (ne_of_none e hD3)]
                exact s8 _ _ e
              · rw [upd_same, tk, List.filter_append, List.map_append]
                simp only [List.filter_cons, ne, if_true, List.filter_nil]
                rfl
            · have ne : (!decide (one = gone)) = false := by
                have z : decide (V.str one = V.str gone) = true := by
                  cases q : decide (V.str one = V.str gone) with
                  | true => rfl
                  | false => rw [q] at h; cases h
                have z2 := of_decide_eq_true z
                injection z2 with z2
                simp [z2]
              refine ⟨s8, ?_⟩
              rw [tk, List.filter_append, e8]
              simp only [List.filter_cons, ne, List.filter_nil]
              simp
          · rintro H8 ⟨s8, e8⟩
            rw [List.length_map, List.take_length] at e8
            have D3p : D3 ≠ p := fun e => by
              obtain ⟨x, y, z, u⟩ := hp6
              rw [← e, hD3] at u
              cases u
            have D3D : D3 ≠ D2 := fun e => by
              rw [e, eD] at hD3
              cases hD3
            have fl := List.length_filter_le (fun k => !decide (k = gone)) knot
            exact q _ _ (Kd.of s8) (hp6.same s8) ⟨D3, _, rfl, D3p, D3D, e8, filter_some kn (by omega), by omega, fun k hk => inK k (List.mem_filter.mp hk).1⟩
        · intro H6 acc2 kd6 hp6 hD6 len6 hall2
          obtain ⟨ls2, rfl, sets62⟩ := sets_of acc2 hall2
          rw [List.length_map, List.length_map] at len6
          have D2p : D2 ≠ p := fun e => by
            obtain ⟨x, y, z, u⟩ := hp5
            rw [← e, hD2] at u
            cases u
          exact rest _ _ ⟨D2, ls2, rfl, kd05.tr kd6, hp6, kd6 _ _ kAp ek5, kd6 _ _ mAp em5, hD6, D2p, none_kd hp hp5 kd05 hD2, sets62, by omega, by omega⟩
      · exact ⟨D, ls, rfl, kd05, hp5, ek5, em5, kd5 _ _ Dp hD4, Dp, hD0, (sets4.kd hp4 kd5).weak fun xs h => ⟨h.1, by have := h.2.1; omega, h.2.2⟩, by omega, by omega⟩
end
end K0

/-! ## Q8 -/
set_option maxRecDepth 100000
set_option maxHeartbeats 4000000
namespace K0
open PySem L2 NS
abbrev sAny : Stmt := top 46
abbrev sWritten : Stmt := top 47
def spAny : Sp := fun vs H Q _ => ∃ (p : Addr) (most : Int), vs = [.ref p, .int most] ∧ DiceAt H p ∧ 1 ≤ most ∧ most ≤ 7 ∧ GiveQ H p Q
def wr : Nat → List (Str × Str) × List Str
  | 0 => ([("r", "ab"), ("s", "bc")], ["a", "c"])
  | 1 => ([("r", "ab"), ("s", "bc"), ("t", "ac")], [])
  | 2 => ([("r", "ab"), ("r", "cb")], ["a"])
  | 3 => ([("r", "ab"), ("s", "bc"), ("t", "cd"), ("u", "ad")], ["a", "b", "c", "d"])
  | 4 => ([("r", "ab"), ("s", "ac"), ("t", "ad")], ["a"])
  | 5 => ([("r", "ab"), ("s", "bc"), ("t", "ac"), ("u", "abc")], ["c"])
  | 6 => ([("r", "ab"), ("s", "cd")], ["d", "a"])
  | 7 => ([("r", "aab"), ("s", "bb")], ["b"])
  | 8 => ([("r", "bcd"), ("s", "acd"), ("t", "abd"), ("u", "abc")], [])
  | _ => ([("r", "a")], ["a"])
def toC (x : Str × Str) : CL := (x.1, lettersOf x.2)
/-- a written question -/
def wq (n : Nat) : PQ := ⟨(wr n).1.map toC, (wr n).2⟩
def spWritten : Sp := fun vs H Q _ => ∃ n : Nat, vs = [.int n] ∧ n < 10 ∧ ∀ H' d, Same H H' → H d = none → PlA H' d (wq n) → Q (.ref d) H'
def tPairs : List (Str × Str) → L2.TA
  | [] => tNil
  | x :: r => tCons (tTup (tCons (tC (.str x.1)) (tCons (tC (.str x.2)) tNil))) (tPairs r)
def tStrs : List Str → L2.TA
  | [] => tNil
  | x :: r => tCons (tC (.str x)) (tStrs r)
theorem strs_run {σ : L2.St} {H : Hp} : ∀ (l : List Str) (Q : List V → Hp → Prop), Q (l.map V.str) H → tStrs l σ H Q
  | [], _, q => q
  | _ :: r, Q, q => strs_run r (fun xs H => Q (_ :: xs) H) q
theorem pairs_run {σ : L2.St} : ∀ (l : List (Str × Str)) (H : Hp) (Q : List V → Hp → Prop), (∀ x ∈ l, x.2.cps.size ≤ 1000) → (∀ ts H', Same H H' → Ins H' ts (l.map toC) → Q (ts.map V.ref) H') → tPairs l σ H Q
  | [], H, Q, _, q => q [] H (fun _ _ h => h) .nil
  | x :: r, H, Q, small, q => by
    refine ⟨by show 2 ≤ sizeLine; decide, fun t ht => ?_⟩
    have s := K0.Same.new (.tup [.str x.1, .str x.2]) ht
    refine pairs_run r _ _ (fun y hy => small y (List.mem_cons_of_mem _ hy)) fun ts H' s2 hin => ?_
    exact q (t :: ts) H' (K0.Same.tr s s2) (.cons ⟨.str x.2, s2 _ _ upd_same, .inl ⟨x.2, rfl, rfl, small x List.mem_cons_self⟩⟩ hin)
/-- lists that ascend are one list, if they have the same clauses -/
theorem sorted_one : ∀ {l m : List CL}, l.Pairwise (fun c c' => ltC c c' = true) → m.Pairwise (fun c c' => ltC c c' = true) → (∀ c, c ∈ l ↔ c ∈ m) → l = m := by
  intro l
  induction l with
  | nil =>
    intro m _ _ h
    cases m with
    | nil => rfl
    | cons c m => exact absurd ((h c).mpr List.mem_cons_self) (by simp)
  | cons a l ih =>
    intro m pl pm h
    cases m with
    | nil => exact absurd ((h a).mp List.mem_cons_self) (by simp)
    | cons b m =>
      obtain ⟨a1, a2⟩ := List.pairwise_cons.mp pl
      obtain ⟨b1, b2⟩ := List.pairwise_cons.mp pm
      have ab : a = b := by
        rcases List.mem_cons.mp ((h a).mp List.mem_cons_self) with e | e
        · exact e
        · rcases List.mem_cons.mp ((h b).mpr List.mem_cons_self) with e2 | e2
          · exact e2.symm
          · have z := ltC_tr (b1 a e) (a1 b e2)
            rw [ltC_irr] at z
            cases z
      subst ab
      refine congrArg (a :: ·) (ih a2 b2 fun c => ⟨fun hc => ?_, fun hc => ?_⟩)
      · rcases List.mem_cons.mp ((h c).mp (List.mem_cons_of_mem _ hc)) with e | e
        · have z := a1 c hc
          rw [e, ltC_irr] at z
          cases z
        · exact e
      · rcases List.mem_cons.mp ((h c).mpr (List.mem_cons_of_mem _ hc)) with e | e
        · have z := b1 c hc
          rw [e, ltC_irr] at z
          cases z
        · exact e
theorem run_q {l : List (Str × Str)} {as : List Str} {σ : L2.St} {H : Hp} {Q : VK} {E : XK} (few : l.length < 64) (al : as.length < 64) (small : ∀ x ∈ l, x.2.cps.size ≤ 1000) (up : (l.map toC).Pairwise fun c c' => ltC c c' = true)
    (k : ∀ H' d, Same H H' → H d = none → PlA H' d ⟨l.map toC, as⟩ → Q (.ref d) H') : tCall spQuest [] E (tCons (tLst (tPairs l)) (tCons (tLst (tStrs as)) tNil)) σ H Q := by
  refine pairs_run l H _ small fun ts H1 s1 hin => ?_
  have tl : ts.length = l.length := by rw [hin.len, List.length_map]
  refine ⟨by rw [List.length_map, sizeLine_eq]; omega, fun a ha => ?_⟩
  have sa := K0.Same.new (.lst (ts.map V.ref)) ha
  refine strs_run as _ ⟨by rw [List.length_map, sizeLine_eq]; omega, fun b hb => ?_⟩
  have sb := K0.Same.new (.lst (as.map V.str)) hb
  refine ⟨a, b, ts, l.map toC, as, rfl, sb _ _ upd_same, (hin.same sa).same sb, upd_same, by omega, fun cs' H' d s hd pl pw mem => ?_⟩
  rw [sorted_one pw up mem] at pl
  have sab := K0.Same.tr s1 (K0.Same.tr sa sb)
  exact k H' d (K0.Same.tr sab s) (none_back sab hd) pl
/-- a written question is a good one -/
def upB : List CL → Bool
  | [] => true
  | c :: cs => cs.all (fun c' => ltC c c') && upB cs
theorem up_of : ∀ {cs : List CL}, upB cs = true → cs.Pairwise fun c c' => ltC c c' = true
  | [], _ => .nil
  | c :: cs, h => by
    rw [upB, Bool.and_eq_true, List.all_eq_true] at h
    exact .cons h.1 (up_of h.2)
def abcd : List Str := ["a", "b", "c", "d"]
theorem wq_up : ∀ n < 10, upB (wq n).cls = true := by decide +kernel
theorem wq_good {n : Nat} (h : n < 10) : GoodP (wq n) where
  cls := {
    some_ := (by decide +kernel : ∀ n < 10, (wq n).cls ≠ []) n h
    few := (by decide +kernel : ∀ n < 10, (wq n).cls.length ≤ 7) n h
    tab := (by decide +kernel : ∀ n < 10, ∀ c ∈ (wq n).cls, c.1 ∈ tabs8) n h
    wide := (by decide +kernel : ∀ n < 10, ∀ c ∈ (wq n).cls, 0 < c.2.length ∧ c.2.length ≤ 8) n h
    same := (by decide +kernel : ∀ n < 10, ∀ c ∈ (wq n).cls, ∀ c' ∈ (wq n).cls, c.1 = c'.1 → c.2.length = c'.2.length) n h
    cols := ⟨abcd, by decide, (by decide +kernel : ∀ k ∈ abcd, k ∈ names16), (by decide +kernel : ∀ n < 10, ∀ c ∈ (wq n).cls, ∀ k ∈ c.2, k ∈ abcd) n h⟩ }
  up := up_of (wq_up n h)
  nd := (by decide +kernel : ∀ n < 10, (wq n).asked.Nodup) n h
  ask := (by decide +kernel : ∀ n < 10, ∀ k ∈ (wq n).asked, k ∈ colsIn (wq n).cls) n h
section
variable {P : Program} {w : World} {K : PySem.W.Frag} {mg : Str → Option Value} {base : Heap} {fR fT fK fD fQ : Addr} {fdR fdT fdK fdD fdQ : FuncData}
theorem scAny : FnScope ["_law_dice_here", "_law_most", "_law_way"] ["_law_dice_here", "_law_most"] (defScope sAny) := ⟨rfl, rfl, rfl, by decide +kernel, rfl, by decide +kernel, by decide +kernel⟩
theorem ok_any {f : Addr} {fd : FuncData} (F : Fun K "_law_any" "_law_any" sAny f fd)
    (eR : Gl K mg "_law_roll" fR) (GR : FnOk P w K mg base CX0 1 fR fdR ["_law_dice_here", "_law_total"] spRoll) (bR : Binds K fdR ["_law_dice_here", "_law_total"] [])
    (eT : Gl K mg "_law_tree" fT) (GT : FnOk P w K mg base CX0 4 fT fdT ["_law_dice_here", "_law_most"] spTree) (bT : Binds K fdT ["_law_dice_here", "_law_most"] [])
    (eK : Gl K mg "_law_knotted" fK) (GK : FnOk P w K mg base CX0 4 fK fdK ["_law_dice_here"] spKnotted) (bK : Binds K fdK ["_law_dice_here"] [])
    (eD : Gl K mg "_law_drawn" fD) (GD : FnOk P w K mg base CX0 4 fD fdD ["_law_dice_here", "_law_most", "_law_width", "_law_is_plain"] spDrawn) (bD : Binds K fdD ["_law_dice_here", "_law_most", "_law_width", "_law_is_plain"] []) :
    FnOk P w K mg base CX0 5 f fd ["_law_dice_here", "_law_most"] spAny := by
  refine F.ok scAny (fun vs H Q E h => ?_) (fun cdv A outer s H vs Q E hr h => ?_)
  · obtain ⟨p, most, rfl, _⟩ := h
    rfl
  · obtain ⟨p, most, rfl, hp, m0, m1, k⟩ := h
    have hr1 : Room 1 _ := hr.mono (by decide)
    refine ⟨_, pss_cons (ps_set (i := 2) scAny.nd rfl (Or.inl rfl) (pe_call GR hr1 (by rfl) eR.g eR.k bR .nil pass0 (pa_cons (pv 0) (pa_cons pe_int pa_nil))))
      (pss_cons (ps_if (pt_cmpR op_eq (pv 2) pe_int (nomark _)) (pss_one (ps_ret (pe_call GT hr (by rfl) eT.g eT.k bT .nil pass0 (pa_cons (pv 0) (pa_cons (pv 1) pa_nil))))) pss_nil)
      (pss_cons (ps_if (pt_cmpR op_eq (pv 2) pe_int (nomark _)) (pss_one (ps_ret (pe_call GK hr (by rfl) eK.g eK.k bK .nil pass0 (pa_cons (pv 0) pa_nil)))) pss_nil)
      (pss_one (ps_ret (pe_call GD hr (by rfl) eD.g eD.k bD .nil pass0 (pa_cons (pv 0) (pa_cons (pv 1) (pa_cons (pe_op op_add pe_int (pe_call GR hr1 (by rfl) eR.g eR.k bR .nil pass0 (pa_cons (pv 0) (pa_cons pe_int pa_nil)))) (pa_cons (pe_cmpR op_eq (pv 2) pe_int (nomark _)) pa_nil)))))))))
      , ?_⟩
    refine ⟨_, rfl, p, _, rfl, hp, by decide, by decide, fun r H1 r0 r1 kd1 hp1 => ?_⟩
    have give : ∀ {H' : Hp}, Kd p H H' → DiceAt H' p → GiveQ H' p Q := fun kd hp' q H2 d g kd2 hp2 hd pl => k q H2 d g (kd.tr kd2) hp2 (none_kd hp hp' kd hd) pl
    refine ⟨_, rfl, rfl, _, rfl, if_both (fun _ => ?_) (fun _ => ?_)⟩
    · exact ⟨_, rfl, _, rfl, p, most, rfl, hp1, m0, m1, give kd1 hp1⟩
    · refine ⟨_, rfl, rfl, _, rfl, if_both (fun _ => ?_) (fun _ => ?_)⟩
      · exact ⟨_, rfl, p, rfl, hp1, give kd1 hp1⟩
      · exact ⟨_, rfl, _, rfl, _, rfl, p, _, rfl, hp1, by decide, by decide, fun r2 H2 r20 r21 kd2 hp2 => ⟨_, _, rfl, rfl, _, rfl, rfl, p, most, _, _, rfl, hp2, m0, m1, by omega, by omega, give (kd1.tr kd2) hp2⟩⟩
theorem scWritten : FnScope ["_law_way"] ["_law_way"] (defScope sWritten) := ⟨rfl, rfl, rfl, by decide +kernel, rfl, by decide +kernel, by decide +kernel⟩
theorem ok_written {f : Addr} {fd : FuncData} (F : Fun K "_law_written" "_law_written" sWritten f fd)
    (eQ : Gl K mg "_law_question" fQ) (GQ : FnOk P w K mg base CX0 1 fQ fdQ ["_law_clauses", "_law_asked_here"] spQuest) (bQ : Binds K fdQ ["_law_clauses", "_law_asked_here"] []) :
    FnOk P w K mg base CX0 2 f fd ["_law_way"] spWritten := by
  refine F.ok scWritten (fun vs H Q E h => ?_) (fun cdv A outer s H vs Q E hr h => ?_)
  · obtain ⟨n, rfl, _⟩ := h
    rfl
  · obtain ⟨n, rfl, hn, k⟩ := h
    refine ⟨_, pss_cons (ps_if (pt_cmpR op_eq (pv 0) pe_int (nomark _)) (pss_one (ps_ret (pe_call GQ hr (by rfl) eQ.g eQ.k bQ .nil pass0 (pa_cons (pe_lst (pa_cons (pe_tup (pa_cons pe_str (pa_cons pe_str pa_nil))) (pa_cons (pe_tup (pa_cons pe_str (pa_cons pe_str pa_nil))) pa_nil))) (pa_cons (pe_lst (pa_cons pe_str (pa_cons pe_str pa_nil))) pa_nil))))) pss_nil)
      (pss_cons (ps_if (pt_cmpR op_eq (pv 0) pe_int (nomark _)) (pss_one (ps_ret (pe_call GQ hr (by rfl) eQ.g eQ.k bQ .nil pass0 (pa_cons (pe_lst (pa_cons (pe_tup (pa_cons pe_str (pa_cons pe_str pa_nil))) (pa_cons (pe_tup (pa_cons pe_str (pa_cons pe_str pa_nil))) (pa_cons (pe_tup (pa_cons pe_str (pa_cons pe_str pa_nil))) pa_nil)))) (pa_cons (pe_lst pa_nil) pa_nil))))) pss_nil)
      (pss_cons (ps_if (pt_cmpR op_eq (pv 0) pe_int (nomark _)) (pss_one (ps_ret (pe_call GQ hr (by rfl) eQ.g eQ.k bQ .nil pass0 (pa_cons (pe_lst (pa_cons (pe_tup (pa_cons pe_str (pa_cons pe_str pa_nil))) (pa_cons (pe_tup (pa_cons pe_str (pa_cons pe_str pa_nil))) pa_nil))) (pa_cons (pe_lst (pa_cons pe_str pa_nil)) pa_nil))))) pss_nil)
      (pss_cons (ps_if (pt_cmpR op_eq (pv 0) pe_int (nomark _)) (pss_one (ps_ret (pe_call GQ hr (by rfl) eQ.g eQ.k bQ .nil pass0 (pa_cons (pe_lst (pa_cons (pe_tup (pa_cons pe_str (pa_cons pe_str pa_nil))) (pa_cons (pe_tup (pa_cons pe_str (pa_cons pe_str pa_nil))) (pa_cons (pe_tup (pa_cons pe_str (pa_cons pe_str pa_nil))) (pa_cons (pe_tup (pa_cons pe_str (pa_cons pe_str pa_nil))) pa_nil))))) (pa_cons (pe_lst (pa_cons pe_str (pa_cons pe_str (pa_cons pe_str (pa_cons pe_str pa_nil))))) pa_nil))))) pss_nil)
      (pss_cons (ps_if (pt_cmpR op_eq (pv 0) pe_int (nomark _)) (pss_one (ps_ret (pe_call GQ hr (by rfl) eQ.g eQ.k bQ .nil pass0 (pa_cons (pe_lst (pa_cons (pe_tup (pa_cons pe_str (pa_cons pe_str pa_nil))) (pa_cons (pe_tup (pa_cons pe_str (pa_cons pe_str pa_nil))) (pa_cons (pe_tup (pa_cons pe_str (pa_cons pe_str pa_nil))) pa_nil)))) (pa_cons (pe_lst (pa_cons pe_str pa_nil)) pa_nil))))) pss_nil)
      (pss_cons (ps_if (pt_cmpR op_eq (pv 0) pe_int (nomark _)) (pss_one (ps_ret (pe_call GQ hr (by rfl) eQ.g eQ.k bQ .nil pass0 (pa_cons (pe_lst (pa_cons (pe_tup (pa_cons pe_str (pa_cons pe_str pa_nil))) (pa_cons (pe_tup (pa_cons pe_str (pa_cons pe_str pa_nil))) (pa_cons (pe_tup (pa_cons pe_str (pa_cons pe_str pa_nil))) (pa_cons (pe_tup (pa_cons pe_str (pa_cons pe_str pa_nil))) pa_nil))))) (pa_cons (pe_lst (pa_cons pe_str pa_nil)) pa_nil))))) pss_nil)
      (pss_cons (ps_if (pt_cmpR op_eq (pv 0) pe_int (nomark _)) (pss_one (ps_ret (pe_call GQ hr (by rfl) eQ.g eQ.k bQ .nil pass0 (pa_cons (pe_lst (pa_cons (pe_tup (pa_cons pe_str (pa_cons pe_str pa_nil))) (pa_cons (pe_tup (pa_cons pe_str (pa_cons pe_str pa_nil))) pa_nil))) (pa_cons (pe_lst (pa_cons pe_str (pa_cons pe_str pa_nil))) pa_nil))))) pss_nil)
      (pss_cons (ps_if (pt_cmpR op_eq (pv 0) pe_int (nomark _)) (pss_one (ps_ret (pe_call GQ hr (by rfl) eQ.g eQ.k bQ .nil pass0 (pa_cons (pe_lst (pa_cons (pe_tup (pa_cons pe_str (pa_cons pe_str pa_nil))) (pa_cons (pe_tup (pa_cons pe_str (pa_cons pe_str pa_nil))) pa_nil))) (pa_cons (pe_lst (pa_cons pe_str pa_nil)) pa_nil))))) pss_nil)
      (pss_cons (ps_if (pt_cmpR op_eq (pv 0) pe_int (nomark _)) (pss_one (ps_ret (pe_call GQ hr (by rfl) eQ.g eQ.k bQ .nil pass0 (pa_cons (pe_lst (pa_cons (pe_tup (pa_cons pe_str (pa_cons pe_str pa_nil))) (pa_cons (pe_tup (pa_cons pe_str (pa_cons pe_str pa_nil))) (pa_cons (pe_tup (pa_cons pe_str (pa_cons pe_str pa_nil))) (pa_cons (pe_tup (pa_cons pe_str (pa_cons pe_str pa_nil))) pa_nil))))) (pa_cons (pe_lst pa_nil) pa_nil))))) pss_nil)
      (pss_one (ps_ret (pe_call GQ hr (by rfl) eQ.g eQ.k bQ .nil pass0 (pa_cons (pe_lst (pa_cons (pe_tup (pa_cons pe_str (pa_cons pe_str pa_nil))) pa_nil)) (pa_cons (pe_lst (pa_cons pe_str pa_nil)) pa_nil))))))))))))), ?_⟩
    refine ⟨_, rfl, rfl, _, rfl, if_both (fun h => ?_) (fun h => ?_)⟩
    · have e : n = 0 := by
        have z := of_decide_eq_true h
        injection z with z
        omega
      subst e
      exact run_q (l := [("r", "ab"), ("s", "bc")]) (as := ["a", "c"]) (by decide) (by decide) (by decide +kernel) (up_of (wq_up 0 (by decide))) k
    have n0 : n ≠ 0 := fun e => by
      rw [e] at h
      exact absurd h (by decide)
    refine ⟨_, rfl, rfl, _, rfl, if_both (fun h => ?_) (fun h => ?_)⟩
    · have e : n = 1 := by
        have z := of_decide_eq_true h
        injection z with z
        omega
      subst e
      exact run_q (l := [("r", "ab"), ("s", "bc"), ("t", "ac")]) (as := []) (by decide) (by decide) (by decide +kernel) (up_of (wq_up 1 (by decide))) k
    have n1 : n ≠ 1 := fun e => by
      rw [e] at h
      exact absurd h (by decide)
    refine ⟨_, rfl, rfl, _, rfl, if_both (fun h => ?_) (fun h => ?_)⟩
    · have e : n = 2 := by
        have z := of_decide_eq_true h
        injection z with z
        omega
      subst e
      exact run_q (l := [("r", "ab"), ("r", "cb")]) (as := ["a"]) (by decide) (by decide) (by decide +kernel) (up_of (wq_up 2 (by decide))) k
    have n2 : n ≠ 2 := fun e => by
      rw [e] at h
      exact absurd h (by decide)
    refine ⟨_, rfl, rfl, _, rfl, if_both (fun h => ?_) (fun h => ?_)⟩
    · have e : n = 3 := by
        have z := of_decide_eq_true h
        injection z with z
        omega
      subst e
      exact run_q (l := [("r", "ab"), ("s", "bc"), ("t", "cd"), ("u", "ad")]) (as := ["a", "b", "c", "d"]) (by decide) (by decide) (by decide +kernel) (up_of (wq_up 3 (by decide))) k
    have n3 : n ≠ 3 := fun e => by
      rw [e] at h
      exact absurd h (by decide)
    refine ⟨_, rfl, rfl, _, rfl, if_both (fun h => ?_) (fun h => ?_)⟩
    · have e : n = 4 := by
        have z := of_decide_eq_true h
        injection z with z
        omega
      subst e
      exact run_q (l := [("r", "ab"), ("s", "ac"), ("t", "ad")]) (as := ["a"]) (by decide) (by decide) (by decide +kernel) (up_of (wq_up 4 (by decide))) k
    have n4 : n ≠ 4 := fun e => by
      rw [e] at h
      exact absurd h (by decide)
    refine ⟨_, rfl, rfl, _, rfl, if_both (fun h => ?_) (fun h => ?_)⟩
    · have e : n = 5 := by
        have z := of_decide_eq_true h
        injection z with z
        omega
      subst e
      exact run_q (l := [("r", "ab"), ("s", "bc"), ("t", "ac"), ("u", "abc")]) (as := ["c"]) (by decide) (by decide) (by decide +kernel) (up_of (wq_up 5 (by decide))) k
    have n5 : n ≠ 5 := fun e => by
      rw [e] at h
      exact absurd h (by decide)
    refine ⟨_, rfl, rfl, _, rfl, if_both (fun h => ?_) (fun h => ?_)⟩
    · have e : n = 6 := by
        have z := of_decide_eq_true h
        injection z with z
        omega
      subst e
      exact run_q (l := [("r", "ab"), ("s", "cd")]) (as := ["d", "a"]) (by decide) (by decide) (by decide +kernel) (up_of (wq_up 6 (by decide))) k
    have n6 : n ≠ 6 := fun e => by
      rw [e] at h
      exact absurd h (by decide)
    refine ⟨_, rfl, rfl, _, rfl, if_both (fun h => ?_) (fun h => ?_)⟩
    · have e : n = 7 := by
        have z := of_decide_eq_true h
        injection z with z
        omega
      subst e
      exact run_q (l := [("r", "aab"), ("s", "bb")]) (as := ["b"]) (by decide) (by decide) (by decide +kernel) (up_of (wq_up 7 (by decide))) k
    have n7 : n ≠ 7 := fun e => by
      rw [e] at h
      exact absurd h (by decide)
    refine ⟨_, rfl, rfl, _, rfl, if_both (fun h => ?_) (fun h => ?_)⟩
    · have e : n = 8 := by
        have z := of_decide_eq_true h
        injection z with z
        omega
      subst e
      exact run_q (l := [("r", "bcd"), ("s", "acd"), ("t", "abd"), ("u", "abc")]) (as := []) (by decide) (by decide) (by decide +kernel) (up_of (wq_up 8 (by decide))) k
    have n8 : n ≠ 8 := fun e => by
      rw [e] at h
      exact absurd h (by decide)
    have e : n = 9 := by omega
    subst e
    exact run_q (l := [("r", "a")]) (as := ["a"]) (by decide) (by decide) (by decide +kernel) (up_of (wq_up 9 (by decide))) k
end
end K0

/-! ## Q9 -/
set_option maxRecDepth 100000
set_option maxHeartbeats 2000000
namespace K0
open PySem L2 NS
/-! ### is_clause -/
abbrev sIsCl : Stmt := top 23
def widB (n : Nat) : Bool := decide (1 ≤ n) && decide (n ≤ 8)
/-- whether a value is a clause, for the values that are met -/
inductive ClV (K : PySem.W.Frag) (H : Hp) : V → Bool → Prop
  | other {v : V} {t : Value} (h : TyX K H v t) (k : PySem.W.kitOne K t (.type "tuple") = some false) : ClV K H v false
  | size {a : Addr} {xs : List V} (h : H a = some (.tup xs)) (n : xs.length ≠ 2) : ClV K H (.ref a) false
  | pair {a : Addr} {x y : V} (h : H a = some (.tup [x, y])) (dx : Da H x) (sx : Sz x) (dy : Da H y) (ty : Tu H y) : ClV K H (.ref a) (nameV x && (onTup H (fun ys => ys.all nameV) y && onTup H (fun ys => widB ys.length) y))
/-- whether a value is a tuple of two, for the values that are met -/
inductive PrV (K : PySem.W.Frag) (H : Hp) : V → Bool → Prop
  | other {v : V} {t : Value} (h : TyX K H v t) (k : PySem.W.kitOne K t (.type "tuple") = some false) : PrV K H v false
  | tup {a : Addr} {xs : List V} {b : Bool} (h : H a = some (.tup xs)) (e : b = decide (V.int (xs.length : Int) = V.int 2)) : PrV K H (.ref a) b
def spIsPr (K : PySem.W.Frag) : Sp := fun vs H Q _ => ∃ v b, vs = [v] ∧ PrV K H v b ∧ Q (.bl b) H
abbrev sIsPr : Stmt := top 12
def spIsCl (K : PySem.W.Frag) : Sp := fun vs H Q _ => ∃ v b, vs = [v] ∧ ClV K H v b ∧ ∀ H', Same H H' → Q (.bl b) H'
theorem big_eq : big = 10 ^ 60 := by unfold big; rfl
theorem isI_small {n : Nat} (h : n ≤ 1000) : isI (.int (n : Int)) = true := by
  show (decide (-big < (n : Int)) && decide ((n : Int) < big)) = true
  have e : big = 10 ^ 60 := big_eq
  rw [decide_eq_true (show -big < (n : Int) by omega), decide_eq_true (show (n : Int) < big by omega)]
  rfl
theorem Tu.same {H H' : Hp} {v : V} (d : Da H v) (t : Tu H v) (s : Same H H') : Tu H' v := by
  intro a xs e h
  subst e
  cases d with
  | lst q => rw [s _ _ q] at h; cases h
  | dK q => rw [s _ _ q] at h; cases h
  | tup q =>
    rw [s _ _ q] at h
    injection h with h
    injection h with h
    subst h
    obtain ⟨l, r⟩ := t a _ rfl q
    exact ⟨l, fun x hx => ⟨(r x hx).1.same s, (r x hx).2⟩⟩
theorem onTup_same {H H' : Hp} {v : V} {p : List V → Bool} (d : Da H v) (s : Same H H') : onTup H' p v = onTup H p v := by
  cases d with
  | non => rfl
  | bl b => rfl
  | int i => rfl
  | str x => rfl
  | lst q => simp only [onTup, q, s _ _ q]
  | tup q => simp only [onTup, q, s _ _ q]
  | dK q => simp only [onTup, q, s _ _ q]
structure T9 (K : PySem.W.Frag) (mg : Str → Option Value) (fI fW fN : Addr) : Prop extends T3 K mg fI fW fN
section
variable {P : Program} {w : World} {K : PySem.W.Frag} {mg : Str → Option Value} {base : Heap} {fI fW fN fA : Addr} {fdI fdW fdN fdA : FuncData}
theorem scIsPr : FnScope ["value"] ["value"] (defScope sIsPr) := ⟨rfl, rfl, rfl, by decide +kernel, rfl, by decide +kernel, by decide +kernel⟩
theorem ok_isPr {f : Addr} {fd : FuncData} (F : Fun K "is_pair" "is_pair" sIsPr f fd) (T : T3 K mg fI fW fN) : FnOk P w K mg base CX0 1 f fd ["value"] (spIsPr K) := by
  refine F.ok scIsPr (fun vs H Q E h => ?_) (fun cdv A outer s H vs Q E hr h => ?_)
  · obtain ⟨v, b, rfl, _⟩ := h
    rfl
  · obtain ⟨v, b, rfl, c, k⟩ := h
    refine ⟨_, pss_one (ps_ret (pe_and (pe_callB call_isi (by rfl) T.isi (by decide +kernel) (pa_cons (pv 0) (pa_cons (pe_bltn (v := .ty "tuple") (by rfl) T.tup (by decide +kernel) rfl) pa_nil)))
      (pe_one (pe_cmpR op_eq (pe_callB call_len_seq (by rfl) T.len PySem.boot_len (pa_cons (pv 0) pa_nil)) pe_int (nomark _))))), ?_⟩
    cases c with
    | @other _ t h kt => exact ⟨_, rfl, _, _, t, _, false, rfl, .ty _, h, kt, false, rfl, iteF k⟩
    | @tup a xs _ h e =>
      subst e
      exact ⟨_, rfl, _, _, _, _, true, rfl, .ty _, .base (.tup h), kit_ty (by decide +kernel), true, rfl, iteT ⟨_, rfl, a, xs, rfl, .inr (SqT.of h), rfl, k⟩⟩
theorem scIsCl : FnScope ["value"] ["value"] (defScope sIsCl) := ⟨rfl, rfl, rfl, by decide +kernel, rfl, by decide +kernel, by decide +kernel⟩
theorem ok_isCl {f fP : Addr} {fd fdP : FuncData} (F : Fun K "is_clause" "is_clause" sIsCl f fd) (T : T3 K mg fI fW fN)
    (eP : Gl K mg "is_pair" fP) (GP : FnOk P w K mg base CX0 1 fP fdP ["value"] (spIsPr K)) (bP : Binds K fdP ["value"] [])
    (GW : FnOk P w K mg base CX0 2 fW fdW ["value"] spIsWid) (bW : Binds K fdW ["value"] [])
    (GN : FnOk P w K mg base CX0 1 fN fdN ["value"] spIsNam) (bN : Binds K fdN ["value"] [])
    (eA : Gl K mg "are_names" fA) (GA : FnOk P w K mg base CX0 2 fA fdA ["value"] spAreNam) (bA : Binds K fdA ["value"] []) :
    FnOk P w K mg base CX0 3 f fd ["value"] (spIsCl K) := by
  refine F.ok scIsCl (fun vs H Q E h => ?_) (fun cdv A outer s H vs Q E hr h => ?_)
  · obtain ⟨v, b, rfl, _⟩ := h
    rfl
  · obtain ⟨v, b, rfl, c, k⟩ := h
    have hr1 : Room 1 _ := hr.mono (by decide)
    refine ⟨_, pss_one (ps_ret (pe_and (pe_call GP hr1 (by rfl) eP.g eP.k bP .nil pass0 (pa_cons (pv 0) pa_nil))
        (pe_and (pe_call GN hr1 (by rfl) T.gN T.kN bN .nil pass0 (pa_cons (pe_ix ix_tup (pv 0) pe_int (fun _ _ => rfl)) pa_nil))
        (pe_and (pe_call GA hr (by rfl) eA.g eA.k bA .nil pass0 (pa_cons (pe_ix ix_tup (pv 0) pe_int (fun _ _ => rfl)) pa_nil))
          (pe_one (pe_call GW hr (by rfl) T.gW T.kW bW .nil pass0 (pa_cons (pe_callB call_len_seq (by rfl) T.len PySem.boot_len (pa_cons (pe_ix ix_tup (pv 0) pe_int (fun _ _ => rfl)) pa_nil)) pa_nil))))))), ?_⟩
    cases c with
    | @other _ t h kt =>
      exact ⟨_, rfl, _, _, rfl, .other h kt, false, rfl, iteF (k H Same.rfl')⟩
    | @size a xs h n =>
      have z : ¬ V.int (xs.length : Int) = V.int 2 := fun q => by
        injection q with q
        omega
      exact ⟨_, rfl, _, false, rfl, .tup h (decide_eq_false z).symm, false, rfl, iteF (k H Same.rfl')⟩
    | @pair a x y h dx sx dy ty =>
      refine ⟨_, rfl, _, true, rfl, .tup h rfl, true, rfl, iteT ?_⟩
      refine ⟨_, rfl, a, _, _, x, rfl, rfl, SqT.of h, rfl, x, rfl, dx, sx, fun H1 s1 => ⟨_, rfl, if_both (fun c1 => ?_) (fun c1 => ?_)⟩⟩
      · have c1' : nameV x = true := c1
        have h1 := s1 _ _ h
        refine ⟨_, rfl, a, _, _, y, rfl, rfl, SqT.of h1, rfl, y, rfl, dy.same s1, ty.same dy s1, fun H2 s2 => ⟨_, rfl, if_both (fun c2 => ?_) (fun c2 => ?_)⟩⟩
        · rw [onTup_same dy s1] at c2
          have h2 := s2 _ _ h1
          have it : isTupV H y = true := by
            cases q : isTupV H y with
            | true => rfl
            | false =>
              have z : onTup H (fun ys => ys.all nameV) y = true := c2
              rw [onTup_no q] at z
              cases z
          obtain ⟨b, ys, rfl, hb⟩ := isTup_at it
          have hb2 := s2 _ _ (s1 _ _ hb)
          refine ⟨_, rfl, a, _, _, _, rfl, rfl, SqT.of h2, rfl, b, ys, rfl, .inr (SqT.of hb2), _, rfl, .int _, ?_⟩
          have k2 := k H2 (K0.Same.tr s1 s2)
          have c2' : onTup H (fun ys => ys.all nameV) (.ref b) = true := c2
          have e3 : onTup H (fun ys => widB ys.length) (.ref b) = isW (.int (ys.length : Int)) := by
            obtain ⟨l, _⟩ := ty b ys rfl hb
            have e4 : isI (.int (ys.length : Int)) = true := isI_small l
            show (match H b with | some (.tup xs) => widB xs.length | _ => false) = (isI (.int (ys.length : Int)) && (decide (1 ≤ (ys.length : Int)) && decide ((ys.length : Int) ≤ 8)))
            rw [hb, e4, Bool.true_and]
            show (decide (1 ≤ ys.length) && decide (ys.length ≤ 8)) = _
            congr 1 <;> exact decide_eq_decide.mpr (by omega)
          rw [c1', c2', e3, Bool.true_and, Bool.true_and] at k2
          generalize isW (.int (ys.length : Int)) = B at k2 ⊢
          exact k2
        · rw [onTup_same dy s1] at c2
          have k2 := k H2 (K0.Same.tr s1 s2)
          have c2' : onTup H (fun ys => ys.all nameV) y = false := c2
          rw [c1', c2'] at k2
          exact k2
      · have c1' : nameV x = false := c1
        have k2 := k H1 s1
        rw [c1'] at k2
        exact k2
end
end K0

/-! ## Q10 -/
set_option maxRecDepth 100000
set_option maxHeartbeats 2000000
namespace K0
open PySem L2 NS
/-! ### _columns_of -/
/-- any walk, with any step -/
theorem walk_it {J : It} {n : Nat} {G : Hp → Prop} {Y : Nat → Hp → V → Hp → Prop} (w : Walk J n G Y) {B : V → Hp → (Hp → Prop) → Prop} {H0 : Hp} {Qd : Hp → Prop} (Pv : Nat → Hp → Prop) (h0 : Pv 0 H0) (hG : ∀ i H, i ≤ n → Pv i H → G H)
    (hs : ∀ i x H H', i < n → Pv i H → Y i H x H' → B x H' (Pv (i + 1))) (hd : ∀ H, Pv n H → Qd H) :
    ∃ W : Nat → Nat → Hp → Prop, (∃ m, W 0 m H0) ∧ ∀ i m H, W i m H → (J.stop i H ∧ Qd H) ∨ (J.go i H ∧ ∃ Nx : Hp → Prop, (∀ H', Nx H' → ∃ m', m' < m ∧ W (i + 1) m' H') ∧ ∀ x H', J.yld i H x H' → B x H' Nx) := by
  refine ⟨fun i m H => m = n - i ∧ i ≤ n ∧ Pv i H, ⟨n, by simp, Nat.zero_le _, h0⟩, ?_⟩
  rintro i m H ⟨rfl, hi, p⟩
  have q := hG i H hi p
  by_cases hlt : i < n
  · exact .inr ⟨w.goes i H hlt q, Pv (i + 1), fun H' p' => ⟨n - (i + 1), by omega, rfl, hlt, p'⟩, fun x H' y => hs i x H H' hlt p (w.yields i H x H' hlt q y)⟩
  · have e : i = n := by omega
    subst e
    exact .inl ⟨w.stops H q, hd H p⟩
abbrev sColsOf : Stmt := top 24
def spColsOf (K : PySem.W.Frag) : Sp := fun vs H Q _ => ∃ (a : Addr) (ts : List Addr) (cs : List CL), vs = [.ref a] ∧ SqT K H a (ts.map V.ref) ∧ Cls H ts cs ∧ (colsIn cs).length < 64 ∧ ts.length ≤ 1000 ∧ ∀ ns t H', IsCols (colsIn cs) ns → Same H H' → H t = none → H' t = some (.tup (ns.map V.str)) → Q (.ref t) H'
section
variable {P : Program} {w : World} {K : PySem.W.Frag} {mg : Str → Option Value} {base : Heap}
abbrev nColsOf : List Str := ["clauses", "_", "columns", "column"]
theorem scColsOf : FnScope nColsOf ["clauses"] (defScope sColsOf) := ⟨rfl, rfl, rfl, by decide +kernel, rfl, by decide +kernel, by decide +kernel⟩
theorem ok_colsOf {f : Addr} {fd : FuncData} (F : Fun K "_columns_of" "_columns_of" sColsOf f fd) (T : TQ K mg) : FnOk P w K mg base CX0 1 f fd ["clauses"] (spColsOf K) := by
  refine F.ok scColsOf (fun vs H Q E h => ?_) (fun cdv A outer s H vs Q E hr h => ?_)
  · obtain ⟨a, ts, cs, rfl, _⟩ := h
    rfl
  · obtain ⟨a, ts, cs, rfl, ha, hc, few, many, k⟩ := h
    refine ⟨_, pss_one (ps_ret (pe_callTy (T := "tuple") call_tuple_of (by rfl) T.tup (by decide +kernel) (pa_cons (pe_callB (cr_sortTx rfl) (by rfl) T.srt (by decide +kernel) (pa_cons (pe_callTy (cr_setTx rfl) (by rfl) T.set (by decide +kernel) (pa_cons
      (pe_lc2 (own := [("_", 1), ("columns", 2), ("column", 3)]) (vs1 := [3]) (wi1 := iTup K (tVar 2)) (g := gTup K 2 (gCons (gName 1) (gCons (gName 2) gNil))) (tt := tYes) (g1 := gName 3) (tt1 := tYes) (te := tVar 3) rfl scColsOf.nd (pi_tup (pv 0))
        (blkOk_by (N := nColsOf) (sc := defScope sColsOf) (by decide +kernel)) (by decide)
        (fun _ _ _ _ _ => pg_tup rfl (pgs_cons (pg_name (i := 1) scColsOf.nd rfl (Or.inl rfl)) (pgs_cons (pg_name (i := 2) scColsOf.nd rfl (Or.inl rfl)) pgs_nil))) (fun _ _ _ _ _ => pts_nil)
        (fun _ _ _ _ _ => pi_tup (pv 2)) (fun _ _ _ _ _ => pg_name (i := 3) scColsOf.nd rfl (Or.inl rfl)) (fun _ _ _ _ _ => pts_nil) (fun _ _ _ _ _ => pv 3)) pa_nil)) pa_nil)) pa_nil))), ?_⟩
    refine ⟨_, rfl, a, rfl, ⟨_, ha⟩, fun D hD => walk_it walk_tup (fun i H' => Same H H' ∧ H' D = some (.lst ((colsIn (cs.take i)).map V.str))) ⟨K0.Same.new _ hD, upd_same⟩ (fun i H' _ s => seqT s.1 ha) ?_ ?_⟩
    · rintro i x H1' H1 hi ⟨s1, e1⟩ ⟨rfl, hx⟩
      rw [List.getElem?_map] at hx
      obtain ⟨t, ht, rfl⟩ := Option.map_eq_some_iff.mp hx
      obtain ⟨hti, et⟩ := List.getElem?_eq_some_iff.mp ht
      obtain ⟨c, hci, hA⟩ := hc.at_ i hti
      rw [et] at hA
      obtain ⟨t2, g1, g2⟩ := hA
      have le := colsIn_le cs (i + 1)
      rw [colsIn_take _ _ _ hci, List.length_append] at le
      refine ⟨t, _, rfl, SqT.of (s1 _ _ g1), rfl, _, _, rfl, _, _, rfl, rfl, rfl, ?_⟩
      dsimp only [tYes]
      rw [if_pos rfl]
      refine ⟨_, rfl, t2, rfl, ⟨_, SqT.of (s1 _ _ g2)⟩, walk_it walk_tup (fun j H' => Same H H' ∧ H' D = some (.lst ((colsIn (cs.take i) ++ c.2.take j).map V.str))) ⟨s1, by rw [List.take_zero, List.append_nil]; exact e1⟩ (fun j H' _ s => SqT.of (s.1 _ _ g2)) ?_ ?_⟩
      · rintro j y H2' H2 hj ⟨s2, e2⟩ ⟨rfl, hy⟩
        rw [List.getElem?_map] at hy
        obtain ⟨z, hz, rfl⟩ := Option.map_eq_some_iff.mp hy
        have zl := (List.getElem?_eq_some_iff.mp hz).1
        refine ⟨rfl, ?_⟩
        rw [if_pos rfl]
        refine ⟨_, rfl, _, e2, by rw [List.length_map, List.length_append, List.length_take, sizeLine_eq]; omega, fun b o e => ?_, ?_⟩
        · rw [upd_ne (ne_of_none e hD)]
          exact s2 _ _ e
        · rw [upd_same, List.take_add_one, hz, ← List.append_assoc, List.map_append (l₁ := colsIn (cs.take i) ++ c.2.take j)]
          rfl
      · rintro H2 ⟨s2, e2⟩
        rw [List.length_map, List.take_length] at e2
        exact ⟨s2, by rw [colsIn_take _ _ _ hci]; exact e2⟩
    · rintro H1 ⟨s1, e1⟩
      rw [List.length_map, hc.len, List.take_length] at e1
      refine ⟨D, _, rfl, .inr (SqL.of e1), by omega, fun p n hn hp => ⟨p, _, n, rfl, upd_same, by omega, fun ns m g1 g2 g3 g4 hm => ?_⟩⟩
      have sp := K0.Same.new (SetTO w p (fun j => decide (j ∈ colsIn cs)) n) hp
      have sm := K0.Same.new (.lst (ns.map V.str)) hm
      refine ⟨m, _, rfl, .inl ⟨SqL.of upd_same, fun t ht => ?_⟩⟩
      have st := K0.Same.new (.tup (ns.map V.str)) ht
      have s2 := K0.Same.tr s1 (K0.Same.tr sp sm)
      exact k ns t _ ⟨g1, g2, fun j => by rw [g3, decide_eq_true_eq]⟩ (K0.Same.tr s2 st) (none_back s2 ht) upd_same
end
end K0

/-! ## P1 -/
set_option maxRecDepth 100000
set_option maxHeartbeats 2000000
/-! ### special methods of a class of the text: ==, !=, in, len, str; keys compared -/
namespace K0
open PySem PySem.Spec PyProof.Rows L2
section
variable {X : Cx}
/-- k < l of keys -/
def rLtN (K : PySem.W.Frag) : R2 := fun x y H Q => ∃ kx ky, NS.Kv K H x kx ∧ NS.Kv K H y ky ∧ NS.okK kx ky = true ∧ kx.depth ≤ 8 ∧ Q (.bl (NS.ltK kx ky)) H
theorem op_ltN (hu : X.A.units + 64 < cLine) : OpR X (compareOp .Lt) (rLtN X.K) := by
  intro pins s σ H x y v u Q I rx ry h
  obtain ⟨kx, ky, hx, hy, ok, hd, q⟩ := h
  exact NS.rich kx ky X.A s v u ok (NS.pure_of I _ _ _ hx rx) (NS.pure_of I _ _ _ hy ry) (by omega) X.prog X.w X.xe _ ⟨.bl _, H, I, rfl, q⟩
end
/-! ### the type of a value, for comparisons -/
section
variable {X : Cx} {pins : List (Addr × Obj)} {σ : L2.St} {H : Hp} {s : Shared} {M : Model}
inductive TyS (K : PySem.W.Frag) (H : Hp) : V → Value → Prop
  | non : TyS K H .non (.type "NoneType")
  | str (z : Str) : TyS K H (.str z) (.type "str")
  | tup {a : Addr} {xs : List V} (h : SqT K H a xs) : TyS K H (.ref a) (.type "tuple")
  | ins {a C dx : Addr} {fs : List (Str × V)} (h : H a = some (.ins C dx fs)) : TyS K H (.ref a) (.ref C)
theorem tyS_looks {y : V} {u t : Value} (I : Inv X pins σ H s) (ry : RelV y u) (h : TyS X.K H y t) : PySem.W.Looks M s.heap (typeOf u) t := by
  cases h with
  | non => cases ry; exact PySem.W.Looks.now
  | str z => obtain ⟨k, rfl⟩ := ry; exact PySem.W.Looks.now
  | tup h =>
    cases ry
    obtain ⟨its, r, ⟨o, ho, hc, n, hd⟩, hz⟩ := I.tuple h
    rw [← hc]
    exact (PySem.W.Looks.ld (part := none) ho).andThen .now
  | ins h =>
    cases ry
    obtain ⟨mA, J, _⟩ := ins_get I.hok h
    obtain ⟨od, J, _⟩ := J.look
    exact J.type
end
/-- x == y, x of the class at C whose == is the def at g -/
def rEqOwn (K : PySem.W.Frag) (C : Addr) (sp : Sp) (E : XK) : R2 := fun x y H Q => ∃ a dx fs t, x = .ref a ∧ H a = some (.ins C dx fs) ∧ TyS K H y t ∧ PySem.W.notFirst K C t = true ∧ sp [x, y] H Q E
section
variable {X : Cx} {CX : CXT} {n : Nat} {C g : Addr} {sp : Sp} {E : XK}
theorem op_eqOwn (hs : PySem.W.findIn X.K (.ref C) "__eq__" = some (some (.ref g))) (hf : PySem.W.isFn X.K (.ref g) = true) (F : FnR X.prog X.w X.K X.mg X.base CX n g sp)
    (hr : Room n X.A) (hx : Passes CX X E) : OpR X (compareOp .Eq) (rEqOwn X.K C sp E) := by
  intro pins s σ H x y v u Q I rx ry h
  obtain ⟨a, dx, fs, t, rfl, ha, ty, hn, q⟩ := h
  cases (show v = Value.ref a from rx)
  obtain ⟨mA, J, _⟩ := ins_get I.hok ha
  obtain ⟨od, J, _⟩ := J.look
  obtain ⟨m, hF⟩ := I.fr
  show wpAny _ _ (richCompare .Eq (.ref a) u) _ _ _
  refine PySem.W.cmp_K (op := .Eq) (tb := t) hr.units0 hF I.ok.mod.kin J (tyS_looks I ry ty) hn hs hf ?_
  refine wpAny_mono (wpAny_call (run_fnR (us := [.ref a, u]) (vs := [.ref a, y]) F hr hx I (.cons rfl (.cons ry .nil)) q)) (fun w s' z => ?_) fun _ _ x => x
  obtain ⟨z', H', I', rz, qz⟩ := z
  exact SlX.cmpback rz ⟨z', H', I', rz, qz⟩
end
end K0

/-! ## P2 -/
set_option maxRecDepth 100000
set_option maxHeartbeats 2000000
namespace K0
open PySem PySem.Spec PyProof.Rows L2
/-! ### x != y by object.__ne__ over the text's own == -/
section
variable {prog : Program} {w : World} {A : Around} {E : Value → Shared → Prop} {s : Shared} {K : PySem.W.Frag} {x C f : Addr} {ox : Obj} {od : Option Obj} {b : Value}
theorem ne_entry {P : PySem.Fin → Shared → Prop} (hu : A.units < cLine) (X : K.In s.heap) (I : PySem.W.InstAt s.heap x ox C od) (hs : PySem.W.findIn K (.ref C) "__eq__" = some (some (.ref f))) (hf : PySem.W.isFn K (.ref f) = true)
    (h : wpAny (model prog w) A (call (.ref f) [.ref x, b]) (fun v s' => ∃ c, v = .bool c ∧ P (.done (.ret (.bool (!c)))) s') E s) : wpAny (model prog w) A (Builtin.«object.__ne__» ⟨[.ref x, b], []⟩) P E s := by
  unfold Builtin.«object.__ne__»
  refine wpAny_bind (m := slotArgs "__ne__" 1 _) (wpAny_pure ?_)
  refine wpAny_bind (wpAny_cRoomFor hu ?_)
  refine wpAny_bind (PySem.W.ifBound_K X I hs hf (wpAny_mono h (fun v s' hv => ?_) fun _ _ e => e))
  obtain ⟨c, rfl, hq⟩ := hv
  refine wpAny_bind (wpAny_truthy_bool ?_)
  exact wpAny_pure hq
theorem ifBound_ne {args : List Value} {Q : Option Value → Shared → Prop} (X : K.In s.heap) (I : PySem.W.InstAt s.heap x ox C od) (hs : PySem.W.findIn K (.ref C) "__ne__" = some (some (.builtin "object.__ne__")))
    (h : wpAny (model prog w) A (call (.builtin "object.__ne__") (.ref x :: args)) (fun v => Q (some v)) E s) : wpAny (model prog w) A (callSpecialIfBound? (.ref x) "__ne__" args) Q E s := by
  simp only [callSpecialIfBound?, bindSpecialIfBound?]
  refine wpAny_holding (wpAny_bind (wpAny_bind (wpAny_bind (I.type.here ((PySem.W.looks_findIn X hs).here ?_)))))
  refine wpAny_bind (wpAny_askSetting (wpAny_ite ?_))
  have fin : wpAny (model prog w) A (call (.builtin "object.__ne__") ([.ref x] ++ args) >>= fun v => pure (some v)) Q E s := wpAny_bind (wpAny_mono h (fun v s' h' => wpAny_pure h') fun _ _ h' => h')
  split
  · exact wpAny_bind (wpAny_of_eq (F.cmp_object.ne.bind _) (wpAny_pure (by exact fin)))
  · exact wpAny_tryCatch (wpAny_bind (wpAny_of_eq (F.cmp_object.ne.bind _) (wpAny_pure (by exact fin))))
theorem ne_K {tb : Value} {Q : Value → Shared → Prop} (hu : A.units + 1 < cLine) (X : K.In s.heap) (I : PySem.W.InstAt s.heap x ox C od) (hb : PySem.W.Looks (model prog w) s.heap (typeOf b) tb) (hn : PySem.W.notFirst K C tb = true) (hm : PySem.W.mroIn K C (.type "object") = some true)
    (hne : PySem.W.findIn K (.ref C) "__ne__" = some (some (.builtin "object.__ne__"))) (hs : PySem.W.findIn K (.ref C) "__eq__" = some (some (.ref f))) (hf : PySem.W.isFn K (.ref f) = true)
    (h : wpAny (model prog w) A.in1 (call (.ref f) [.ref x, b]) (fun v s' => ∃ c, v = .bool c ∧ Q (.bool (!c)) s') E s) : wpAny (model prog w) A (richCompare .NotEq (.ref x) b) Q E s := by
  have one : wpAny (model prog w) A (tryCompare (.ref x) "__ne__" b) (fun r s' => ∃ v, r = some v ∧ Q v s') E s := by
    unfold tryCompare
    refine wpAny_bind (ifBound_ne X I hne ?_)
    refine wpAny_call (codeAny_call_builtin F.cmp_object.ne.plain F.cmpEntry_ne (PySem.W.check_slot F.cmpKind_ne F.cmpSplit_ne (I.type.andThen (PySem.W.looks_mroIn X hm)) (F.cmpArgs_ne _ _) ?_))
    refine ne_entry (by rw [Around.in1_units]; omega) X I hs hf (wpAny_mono h (fun v s' hv => ?_) fun _ _ e => e)
    obtain ⟨c, rfl, hq⟩ := hv
    exact ⟨c, rfl, wpAny_pure ⟨_, rfl, hq⟩⟩
  unfold richCompare
  simp only [oneThing_ref]
  refine wpAny_holding (wpAny_bind (wpAny_cRoomFor (by omega) ?_))
  refine wpAny_bind (I.type.here (wpAny_bind (hb.here ?_)))
  split
  · rename_i q
    have e : PySem.W.subIn K tb (.ref C) = some false := by
      rcases Bool.or_eq_true_iff.mp hn with e | e
      · rw [beq_iff_eq.mp e] at q; simp at q
      · exact beq_iff_eq.mp e
    refine wpAny_bind ((PySem.W.looks_subIn X e).here ?_)
    simp only [Bool.false_eq_true, if_false]
    refine wpAny_bind (wpAny_mono one (fun r s' z => ?_) fun _ _ e => e)
    obtain ⟨v, rfl, hq⟩ := z
    exact wpAny_pure hq
  · refine wpAny_bind (wpAny_pure ?_)
    simp only [Bool.false_eq_true, if_false]
    refine wpAny_bind (wpAny_mono one (fun r s' z => ?_) fun _ _ e => e)
    obtain ⟨v, rfl, hq⟩ := z
    exact wpAny_pure hq
/-! ### x in o by the text's own __contains__ -/
theorem in_K {Q : Bool → Shared → Prop} (X : K.In s.heap) (I : PySem.W.InstAt s.heap x ox C od) (hs : PySem.W.findIn K (.ref C) "__contains__" = some (some (.ref f))) (hf : PySem.W.isFn K (.ref f) = true)
    (h : wpAny (model prog w) A (call (.ref f) [.ref x, b]) (fun v s' => ∃ c, v = .bool c ∧ Q c s') E s) : wpAny (model prog w) A (contains (.ref x) b) Q E s := by
  unfold contains
  refine wpAny_holding ?_
  have e0 : stdlibNamesSay? (.ref x) b = none := by
    unfold stdlibNamesSay?
    rfl
  rw [e0]
  refine wpAny_bind (wpAny_bind (I.type.here ((PySem.W.looks_findIn X hs).here ?_)))
  refine wpAny_ite_split (fun hab => absurd hab (show ¬ ((some (Value.ref f) == some Value.none) = true) from Bool.false_ne_true)) (fun _ => ?_)
  unfold callSpecialUnlessNone?
  refine wpAny_bind (wpAny_bind (wpAny_bind (I.type.here ((PySem.W.looks_findIn X hs).here ?_))))
  refine wpAny_holding (wpAny_bind ((PySem.W.bind_fn X _ (beq_iff_eq.mp hf)).here ?_))
  refine wpAny_ite_split (fun hab => absurd hab (show ¬ ((Value.ref f == Value.none) = true) from Bool.false_ne_true)) (fun _ => ?_)
  refine wpAny_bind (wpAny_mono h (fun v s' hv => ?_) fun _ _ e => e)
  obtain ⟨c, rfl, hq⟩ := hv
  exact wpAny_pure (wpAny_truthy_bool hq)
end
/-- x != y, by the own == -/
def rNeOwn (K : PySem.W.Frag) (C : Addr) (sp : Sp) (E : XK) : R2 := fun x y H Q => ∃ a dx fs t, x = .ref a ∧ H a = some (.ins C dx fs) ∧ TyS K H y t ∧ PySem.W.notFirst K C t = true ∧ sp [x, y] H (fun v H' => ∃ c, v = .bl c ∧ Q (.bl (!c)) H') E
/-- y in o -/
def rInOwn (C : Addr) (sp : Sp) (E : XK) : R2 := fun x y H Q => ∃ a dx fs, y = .ref a ∧ H a = some (.ins C dx fs) ∧ sp [y, x] H (fun v H' => ∃ c, v = .bl c ∧ Q (.bl c) H') E
def rLenOwn (C : Addr) (sp : Sp) (E : XK) : List V → Hp → VK → Prop := fun xs H Q => ∃ a dx fs, xs = [.ref a] ∧ H a = some (.ins C dx fs) ∧ sp xs H (fun v H' => ∃ i : Int, v = .int i ∧ 0 ≤ i ∧ i < 2 ^ 63 ∧ Q (.int i) H') E
def rStrOwn (C : Addr) (sp : Sp) (E : XK) : List V → Hp → VK → Prop := fun xs H Q => ∃ a dx fs, xs = [.ref a] ∧ H a = some (.ins C dx fs) ∧ sp xs H (fun v H' => ∃ z, v = .str z ∧ Q (.str z) H') E
section
variable {X : Cx} {CX : CXT} {n : Nat} {C g : Addr} {sp : Sp} {E : XK}
theorem op_neOwn (hm : PySem.W.mroIn X.K C (.type "object") = some true) (hne : PySem.W.findIn X.K (.ref C) "__ne__" = some (some (.builtin "object.__ne__"))) (hs : PySem.W.findIn X.K (.ref C) "__eq__" = some (some (.ref g))) (hf : PySem.W.isFn X.K (.ref g) = true) (F : FnR X.prog X.w X.K X.mg X.base CX n g sp)
    (hr : Room (n + 1) X.A) (hx : Passes CX X E) : OpR X (compareOp .NotEq) (rNeOwn X.K C sp E) := by
  intro pins s σ H x y v u Q I rx ry h
  obtain ⟨a, dx, fs, t, rfl, ha, ty, hn, q⟩ := h
  cases (show v = Value.ref a from rx)
  obtain ⟨mA, J, _⟩ := ins_get I.hok ha
  obtain ⟨od, J, _⟩ := J.look
  show wpAny _ _ (richCompare .NotEq (.ref a) u) _ _ _
  refine ne_K (by have := hr.units; omega) I.kIn J (tyS_looks I ry ty) hn hm hne hs hf ?_
  refine wpAny_mono (wpAny_call (SlX.run_at (us := [.ref a, u]) (ws := [.ref a, y]) F hr.in1 I.env0.in1 hx I (.cons rfl (.cons ry .nil)) q)) (fun w s' z => ?_) fun _ _ x => x
  obtain ⟨z', H', I', rz, c, rfl, qz⟩ := z
  cases (show w = Value.bool c from rz)
  exact ⟨c, rfl, .bl _, H', I', rfl, qz⟩
theorem op_inOwn (hs : PySem.W.findIn X.K (.ref C) "__contains__" = some (some (.ref g))) (hf : PySem.W.isFn X.K (.ref g) = true) (F : FnR X.prog X.w X.K X.mg X.base CX n g sp)
    (hr : Room n X.A) (hx : Passes CX X E) : OpR X (compareOp .In) (rInOwn C sp E) := by
  intro pins s σ H x y v u Q I rx ry h
  obtain ⟨a, dx, fs, rfl, ha, q⟩ := h
  cases (show u = Value.ref a from ry)
  obtain ⟨mA, J, _⟩ := ins_get I.hok ha
  obtain ⟨od, J, _⟩ := J.look
  show wpAny _ _ (contains (.ref a) v >>= fun r => pure (Value.bool r)) _ _ _
  refine wpAny_bind (in_K I.kIn J hs hf ?_)
  refine wpAny_mono (wpAny_call (run_fnR (us := [.ref a, v]) (vs := [.ref a, x]) F hr hx I (.cons rfl (.cons rx .nil)) q)) (fun w s' z => ?_) fun _ _ x => x
  obtain ⟨z', H', I', rz, c, rfl, qz⟩ := z
  cases (show w = Value.bool c from rz)
  exact ⟨c, rfl, wpAny_pure ⟨.bl _, H', I', rfl, qz⟩⟩
theorem op_notInOwn (hs : PySem.W.findIn X.K (.ref C) "__contains__" = some (some (.ref g))) (hf : PySem.W.isFn X.K (.ref g) = true) (F : FnR X.prog X.w X.K X.mg X.base CX n g sp)
    (hr : Room n X.A) (hx : Passes CX X E) : OpR X (compareOp .NotIn) (fun x y H Q => rInOwn C sp E x y H fun v H' => ∃ c, v = .bl c ∧ Q (.bl (!c)) H') := by
  intro pins s σ H x y v u Q I rx ry h
  obtain ⟨a, dx, fs, rfl, ha, q⟩ := h
  cases (show u = Value.ref a from ry)
  obtain ⟨mA, J, _⟩ := ins_get I.hok ha
  obtain ⟨od, J, _⟩ := J.look
  show wpAny _ _ (contains (.ref a) v >>= fun r => pure (Value.bool (!r))) _ _ _
  refine wpAny_bind (in_K I.kIn J hs hf ?_)
  refine wpAny_mono (wpAny_call (run_fnR (us := [.ref a, v]) (vs := [.ref a, x]) F hr hx I (.cons rfl (.cons rx .nil)) q)) (fun w s' z => ?_) fun _ _ x => x
  obtain ⟨z', H', I', rz, c, rfl, c', e, qz⟩ := z
  cases (show w = Value.bool c from rz)
  cases e
  exact ⟨c, rfl, wpAny_pure ⟨.bl _, H', I', rfl, qz⟩⟩
theorem call_lenOwn (hs : PySem.W.findIn X.K (.ref C) "__len__" = some (some (.ref g))) (hf : PySem.W.isFn X.K (.ref g) = true) (F : FnR X.prog X.w X.K X.mg X.base CX n g sp)
    (hr : Room (n + 1) X.A) (hx : Passes CX X E) : CallR X (.builtin "len") (rLenOwn C sp E) := by
  intro pins s σ H xs us Q I r h
  obtain ⟨a, dx, fs, rfl, ha, q⟩ := h
  obtain ⟨u, rfl, ru⟩ := r.one
  cases (show u = Value.ref a from ru)
  obtain ⟨mA, J, _⟩ := ins_get I.hok ha
  obtain ⟨od, J, _⟩ := J.look
  obtain ⟨m, hF⟩ := I.fr
  refine PySem.W.len_K hF I.ok.mod.kin J hs hf ?_
  refine wpAny_mono (wpAny_call (SlX.run_at (us := [.ref a]) (ws := [.ref a]) F hr.in1 I.env0.in1 hx I (.cons rfl .nil) q)) (fun w s' z => ?_) fun _ _ x => x
  obtain ⟨z', H', I', rz, i, rfl, h0, h1, qz⟩ := z
  obtain ⟨t, e⟩ := (show ∃ t, w = Value.int i t from rz)
  cases e
  exact ⟨⟨h0, h1⟩, .int i, H', I'.tok (s'.toks + 1), ⟨_, rfl⟩, qz⟩
theorem call_strOwn (hs : PySem.W.findIn X.K (.ref C) "__str__" = some (some (.ref g))) (hf : PySem.W.isFn X.K (.ref g) = true) (F : FnR X.prog X.w X.K X.mg X.base CX n g sp)
    (hr : Room (n + 2) X.A) (hx : Passes CX X E) : CallR X (.type "str") (rStrOwn C sp E) := by
  intro pins s σ H xs us Q I r h
  obtain ⟨a, dx, fs, rfl, ha, q⟩ := h
  obtain ⟨u, rfl, ru⟩ := r.one
  cases (show u = Value.ref a from ru)
  obtain ⟨mA, J, _⟩ := ins_get I.hok ha
  obtain ⟨od, J, _⟩ := J.look
  have hr2 : Room n X.A.in1.in1 := (show Room (n + 1) X.A.in1 from Room.in1 hr).in1
  refine PySem.W.kso_call hr2.units0 I.kIn J hs hf ?_
  refine wpAny_mono (wpAny_call (SlX.run_at (us := [.ref a]) (ws := [.ref a]) F hr2 I.env0.in1.in1 hx I (.cons rfl .nil) q)) (fun w s' z => ?_) fun _ _ x => x
  obtain ⟨z', H', I', rz, i, rfl, qz⟩ := z
  obtain ⟨t, e⟩ := (show ∃ t, w = Value.str i t from rz)
  cases e
  exact ⟨.str i, H', I', ⟨_, rfl⟩, qz⟩
end
end K0

/-! ## P3 -/
set_option maxRecDepth 100000
set_option maxHeartbeats 2000000
namespace K0
open PySem PySem.Spec PyProof.Rows L2 ItX
/-! ### a def whose promise speaks of the heap's size when it is entered -/
def FnS (P : Program) (w : World) (K : PySem.W.Frag) (mg : Str → Option Value) (base : Heap) (CX : CXT) (k : Nat) (f : Addr) (sp : Nat → Sp) : Prop :=
  ∀ (A : Around) (outer : List Env) (s : Shared) (H : Hp) (us : List Value) (vs : List V) (Q : VK) (E : XK), Room k A → Env0 P w K mg base A outer s H → Vals vs us → sp s.heap.objs.size vs H Q E →
    codeAny (model P w) A (.call (.ref f) ⟨us, []⟩) (CR CX outer P w H s Q E) s
section
variable {P : Program} {w : World} {K : PySem.W.Frag} {mg : Str → Option Value} {base : Heap}
theorem sfn {x qual : Str} {st : Stmt} {f : Addr} {fd : FuncData} {N ps : List Str} {k : Nat} {sp : Nat → Sp} {CX : CXT} (F : Fun K x qual st f fd) (S : FnScope N ps (defScope st)) (b : Binds K fd ps []) (len : ∀ n vs H Q E, sp n vs H Q E → vs.length = ps.length)
    (hbody : ∀ (cdv : Value) (A : Around) (outer : List Env) (s : Shared) (H : Hp) (vs : List V) (Q : VK) (E : XK), Room k (A.deeper (envOfC qual (defScope st) s.heap.objs.size f cdv)) → sp s.heap.objs.size vs H Q E →
      ∃ t, PSs (cxOf CX P w K mg base N qual (defScope st) f cdv A outer s H E) (defBody st) t ∧ t { nx := fun _ H' => Q .non H', rt := Q } (L2.start N vs) H) : FnS P w K mg base CX (k + 1) f sp := by
  intro A outer s H us vs Q E hr e0 r hsp
  have hl := len _ _ _ _ _ hsp
  have KX : K.In s.heap := e0.mod.kin.keeps fun b o e => (e0.bs b o e).1
  have hb : BindsTo s fd ⟨us, []⟩ (ps.zip us) := by
    have z := b s us KX (by rw [List.append_nil, ← r.length]; exact hl)
    simpa using z
  obtain ⟨oc, od, kV, doc, pm, an, cdv, ct, osl, rfl, lk, hcd⟩ := F.ex
  have lim : s.heap.NoLimit := e0.mod.nolimit.keeps fun b o e => (e0.bs b o e).1
  have hkind : ∀ y ∈ ps.zip us, (defScope st).names.lookup y.1 = some .local ∨ ((defScope st).names.lookup y.1 = some .cell ∧ ((cellsFrom (s.heap.objs.size + 1) (defScope st).names []).lookup y.1).isSome = true) := fun ⟨n, v⟩ hy => by
    rcases S.par n (List.of_mem_zip hy).1 with q | q
    · exact .inl q
    · exact .inr ⟨q, PySem.W.cellsFrom_some _ _ _ (.inl q)⟩
  refine codeAny_call_function hr.depth (KX _ _ lk) rfl S.co S.gen rfl (PySem.W.codeRec_of KX hcd) (hb _ _ _ _ ?_)
  refine wpAny_newFunctionEnv_cells S.kind hkind fun env he s1 x => ?_
  subst he
  refine ⟨lim.keeps x.toInCall.keep, codeAny_func ?_⟩
  obtain ⟨t, ht, hq⟩ := hbody cdv A outer s H vs Q E (hr.deeper _) hsp
  have I : Inv (cxOf CX P w K mg base N qual (defScope st) f cdv A outer s H E) [] (L2.start N vs) H s1 := inv_start S hr.hd e0 hl r x
  refine wpAny_mono (ht.run [] s1 (L2.start N vs) H _ I hq) (fun fl s' hs => ?_) fun e s' hs => hs
  have fin : ∀ {σ' : L2.St} {H' : Hp} {v : V} {u : Value}, Inv (cxOf CX P w K mg base N qual (defScope st) f cdv A outer s H E) [] σ' H' s' → RelV v u → Q v H' → CE outer P w H s Q u s' :=
    fun {σ' H' v u} J rv q => ⟨v, H', J.os, J.bare, J.base, J.hok, rv, q⟩
  cases fl with
  | ret u =>
    obtain ⟨v, σ', H', J, rv, q⟩ := hs
    exact fin J rv q
  | next =>
    obtain ⟨σ', H', J, q⟩ := hs
    exact fin (v := V.non) (u := Value.none) J rfl q
  | brk =>
    obtain ⟨_, _, _, q⟩ := hs
    exact False.elim q
  | cont =>
    obtain ⟨_, _, _, q⟩ := hs
    exact False.elim q
end
/-! ### iter(t), t a tuple -/
def TitO (t it : Addr) : HO := .ext fun h => h.IsTupleIter it t 0
theorem titO_ok {P : Program} {w : World} {H : Hp} {h : Heap} {t it : Addr} (e : h.IsTupleIter it t 0) : ObjOk P w H h it (TitO t it) := by
  obtain ⟨o, ho, r⟩ := e
  refine ⟨⟨o, ho, r⟩, ⟨o, ho⟩, fun h1 h2 q k => ?_⟩
  obtain ⟨o1, a1, a2⟩ := q
  exact ⟨o1, k _ a1, a2⟩
theorem call_iter_tup {prog : Program} {w : World} {A : Around} {E : Value → Shared → Prop} {s : Shared} {l : Addr} {items : Array Value} {Q : Value → Shared → Prop} (hl : s.heap.IsTuple l items)
    (h : Q (.ref s.heap.objs.size) { s with heap := s.heap.push { cls := .type "tuple_iterator", data := .fields #[.ref l, .int 0 0] } }) : wpAny (model prog w) A (call (.builtin "iter") [.ref l]) Q E s := by
  refine Calls.call_function_entry (by decide +kernel) (by decide +kernel) PySem.W.kdk_entry_iter (PySem.W.kdk_args_iter _) ?_
  unfold Builtin.«iter»
  refine wpAny_bind (m := someArgs "iter" 1 2 _) (wpAny_of_eq (a := [Value.ref l]) (by first | rfl | kernel_rfl!) ?_)
  show wpAny _ _ (pyIter (.ref l) >>= _) _ _ _
  refine wpAny_bind (wpAny_pyIter_tuple hl ?_)
  exact wpAny_pure ⟨_, rfl, h⟩
def rIterT (K : PySem.W.Frag) (n : Nat) : List V → Hp → VK → Prop := fun xs H Q => ∃ (t : Addr) (zs : List V), xs = [.ref t] ∧ SqT K H t zs ∧ ∀ it, H it = none → n ≤ it → Q (.ref it) (upd H it (TitO t it))
section
variable {X : Cx}
theorem call_iterT : CallR X (.builtin "iter") (rIterT X.K X.s_0.heap.objs.size) := by
  intro pins s σ H xs us Q I r h
  obtain ⟨t, zs, rfl, hq, q⟩ := h
  obtain ⟨u, rfl, ru⟩ := vals1 r
  cases ru
  obtain ⟨its, rv, pl, hz⟩ := I.tuple hq
  refine call_iter_tup pl ?_
  exact ⟨.ref s.heap.objs.size, _, I.laid (t' := s.toks) (fun b u e => Heap.get?_push_of_some _ e) (Nat.le_refl _) (titO_ok ⟨_, Heap.get?_push_size _ rfl, rfl, rfl⟩), rfl, q _ (I.hok.fresh (Nat.le_refl _)) I.sz⟩
end
/-! ### walking an object whose __iter__ gives the iterator of a tuple that it holds -/
/-- what such an __iter__ promises: fld holds the tuple -/
def spIterT (K : PySem.W.Frag) (C : Addr) (fld : Str) : Nat → Sp := fun n vs H Q _ => ∃ a dx fs t zs, vs = [.ref a] ∧ H a = some (.ins C dx fs) ∧ fs.lookup fld = some (.ref t) ∧ SqT K H t zs ∧ ∀ it, H it = none → n ≤ it → Q (.ref it) (upd H it (TitO t it))
structure ItrC (X : Cx) (n : Nat) (C g : Addr) (fld : Str) : Prop where
  at_ : PySem.W.findIn X.K (.ref C) "__iter__" = some (some (.ref g))
  fn : PySem.W.isFn X.K (.ref g) = true
  ok : FnS X.prog X.w X.K X.mg X.base CX0 n g (spIterT X.K C fld)
section
variable {X : Cx} {pins : List (Addr × Obj)} {σ : L2.St} {H : Hp} {s : Shared} {A : Around} {n : Nat} {C g a dx t it : Addr} {fld : Str} {fs : List (Str × V)} {zs : List V}
theorem sub_env (sb : Sub X n A) (I : Inv X pins σ H s) : Env0 X.prog X.w X.K X.mg X.base A X.stack s H := by
  have e := I.env0
  exact ⟨by rw [sb.fr]; exact e.frames, e.mod, e.bs, e.bsz, e.funs, e.frf, e.hok, e.bare⟩
theorem own_iterT0 {E' : Value → Shared → Prop} {Q : Value → Shared → Prop} (sb : Sub X n A) (T : ItrC X n C g fld) (I : Inv X pins σ H s) (ha : H a = some (.ins C dx fs)) (hf : fs.lookup fld = some (.ref t)) (ht : SqT X.K H t zs)
    (h : ∀ it s', Inv X pins σ (upd H it (TitO t it)) s' → H it = none → X.s_0.heap.objs.size ≤ it → Q (.ref it) s') : wpAny (model X.prog X.w) A (pyIter (.ref a)) Q E' s := by
  obtain ⟨mA, J, _⟩ := ins_get I.hok ha
  obtain ⟨od, J, _⟩ := J.look
  obtain ⟨m, hF⟩ := I.fr
  refine PySem.W.owit_iter hF I.ok.mod.kin J T.at_ T.fn ?_
  have hsp : spIterT X.K C fld s.heap.objs.size [.ref a] H (fun v H' => ∃ it, v = .ref it ∧ H' = upd H it (TitO t it) ∧ H it = none ∧ s.heap.objs.size ≤ it) (fun _ _ _ => False) :=
    ⟨a, dx, fs, t, zs, rfl, ha, hf, ht, fun it h1 h2 => ⟨it, rfl, rfl, h1, h2⟩⟩
  refine wpAny_call (codeAny_mono (T.ok A X.stack s H [.ref a] [.ref a] _ _ sb.room (sub_env sb I) (.cons rfl .nil) hsp) fun r s' hq => ?_)
  cases r with
  | error e => exact False.elim hq
  | ok fl =>
    cases fl with
    | next => exact False.elim hq
    | brk => exact False.elim hq
    | cont => exact False.elim hq
    | ret u =>
      obtain ⟨v, H', I', rv, it, ev, eH, hn, hz⟩ := I.after hq
      subst ev
      subst eH
      cases rv
      have st : s'.heap.IsTupleIter it t 0 := (I'.hok it _ upd_same).1
      show wpAny _ _ (specialOf (.ref it) "__next__") _ _ _
      refine wpAny_specialOf (name := Str.ofString "__next__") st.typeIs F.slot_tuple_iterator_next.lookup ?_
      exact h it s' I' hn (Nat.le_trans I.sz hz)
theorem tit_drop (I : Inv X pins σ (upd H it (TitO t it)) s) (hn : H it = none) (hz : X.s_0.heap.objs.size ≤ it) : Inv X pins σ H s ∧ FpOk X pins H it ∧ s.heap.IsTupleIter it t 0 := by
  have hi : upd H it (TitO t it) it = some (TitO t it) := upd_same
  have st : s.heap.IsTupleIter it t 0 := (I.hok it _ hi).1
  have hi' := hi
  unfold TitO at hi'
  have Id := inv_drop I hi'
  have fp := inv_fp I hi' hz
  have eD : dropH (upd H it (TitO t it)) it = H := dropH_upd hn
  rw [eD] at Id fp
  exact ⟨Id, fp, st⟩
theorem own_iterT {E' : Value → Shared → Prop} {Q : Value → Shared → Prop} (sb : Sub X n A) (T : ItrC X n C g fld) (I : Inv X pins σ H s) (ha : H a = some (.ins C dx fs)) (hf : fs.lookup fld = some (.ref t)) (ht : SqT X.K H t zs)
    (h : ∀ it s', Inv X pins σ H s' → FpOk X pins H it → s'.heap.IsTupleIter it t 0 → Q (.ref it) s') : wpAny (model X.prog X.w) A (pyIter (.ref a)) Q E' s :=
  own_iterT0 sb T I ha hf ht fun it s' I' hn hz => by
    obtain ⟨a1, a2, a3⟩ := tit_drop I' hn hz
    exact h it s' a1 a2 a3
end
/-! ### list(o) -/
section
variable {X : Cx} {pins : List (Addr × Obj)} {σ : L2.St} {H : Hp} {s : Shared} {A1 : Around} {n : Nat} {C g gl a q t it dx : Addr} {fld : Str} {fs : List (Str × V)} {zs : List V}
theorem FpOk.moved {H H' : Hp} {b : Addr} (f : FpOk X pins H b) (h : H' b = none) : FpOk X pins H' b := ⟨h, f.2⟩
theorem tup_loop {Rs : Result → Shared → Prop} (hh : A1.in1.handled = none) (few : zs.length ≤ sizeLine) (hq : H q = none) (ht : SqT X.K H t zs) (fp : FpOk X pins H it) (hqi : it ≠ q)
    (hdone : ∀ s, Inv X pins σ (upd H q (.lst zs)) s → Rs (.ok (.ret .none)) s) :
    ∀ (k i : Nat) (s : Shared), i + k = zs.length → Inv X pins σ (upd H q (.lst (zs.take i))) s → s.heap.IsTupleIter it t i → codeAny (model X.prog X.w) A1 (.builtin "list.extend.loop" ⟨[.ref q, .ref it, .none], []⟩) Rs s := by
  intro k
  induction k with
  | zero =>
    intro i s hi I st
    have e : zs.take i = zs := List.take_of_length_le (by omega)
    rw [e] at I
    refine codeAny_builtin PySem.F.entry_extend_loop ?_
    rw [Around.under_plainId PySem.F.plain_extend_loop _]
    show wpAny _ A1.in1 (pyNext (.ref it) >>= _) _ _ s
    have ht2 : SqT X.K (upd H q (.lst zs)) t zs := seqT (K0.Same.new _ hq) ht
    obtain ⟨its, rv, p, hz⟩ := I.tuple ht2
    have hl := rv.length
    obtain ⟨f0, f1, f2, f3, f4, f5⟩ := FpOk.moved (H' := upd H q (.lst zs)) fp (by rw [upd_ne hqi]; exact fp.1)
    refine wpAny_bind (wpAny_pyNext_tuple_end hh st (show s.heap.IsTuple t its.toArray from p) (by simp; omega) fun h' eb => ?_)
    have I1 : Inv X pins σ (upd H q (.lst zs)) { s with heap := h' } := I.turned (t' := s.toks) (fun b o hb e => eb b o hb e) f0 f1 f3 f4 f5
    exact wpAny_pure (hdone _ I1)
  | succ k ih =>
    intro i s hi I st
    refine codeAny_builtin PySem.F.entry_extend_loop ?_
    rw [Around.under_plainId PySem.F.plain_extend_loop _]
    show wpAny _ A1.in1 (pyNext (.ref it) >>= _) _ _ s
    have ht2 : SqT X.K (upd H q (.lst (zs.take i))) t zs := seqT (K0.Same.new _ hq) ht
    obtain ⟨its, rv, p, hz⟩ := I.tuple ht2
    have hlt : i < zs.length := by omega
    obtain ⟨u, hu, ru⟩ := rv.get (List.getElem?_eq_getElem hlt)
    obtain ⟨f0, f1, f2, f3, f4, f5⟩ := FpOk.moved (H' := upd H q (.lst (zs.take i))) fp (by rw [upd_ne hqi]; exact fp.1)
    refine wpAny_bind (wpAny_pyNext_tuple_item st (show s.heap.IsTuple t its.toArray from p) (x := u) (by simpa using hu) fun h' st' sb => ?_)
    have I1 : Inv X pins σ (upd H q (.lst (zs.take i))) { s with heap := h' } := I.turned (t' := s.toks) (fun b o hb e => (sb.2 b hb).trans e) f0 f1 f3 f4 f5
    show wpAny _ A1.in1 (updateSeq q (·.push u) >>= _) _ _ _
    obtain ⟨z, its2, k2, r2, hl2, e2⟩ := I1.lstM upd_same
    have tk : zs.take (i + 1) = zs.take i ++ [zs[i]] := by rw [List.take_add_one, List.getElem?_eq_getElem hlt]; rfl
    have sz : its2.length ≤ i := by
      rw [← r2.length, List.length_take]
      omega
    refine wpAny_bind (wpAny_updateSeq e2 rfl (wpAny_pure ⟨plainId_quiet PySem.F.plain_extend_loop _, ?_⟩) (by rw [List.size_toArray]; omega) (by show (its2.toArray.push u).size ≤ sizeLine + 1; rw [Array.size_push, List.size_toArray]; omega))
    have I2 := I1.lset (f := (·.push u)) (its' := its2 ++ [u]) (ys := zs.take (i + 1)) (t' := s.toks) upd_same e2 (by simp) (by rw [tk]; exact r2.append (.cons ru .nil)) (by rw [List.length_take]; omega)
    rw [upd_upd] at I2
    refine ih (i + 1) _ (by omega) I2 ?_
    obtain ⟨o, ho, hr⟩ := st'
    exact ⟨o, (Heap.get?_update_other _ _ (Ne.symm hqi)).trans ho, hr⟩
end
/-- list(o), o of the class at C: fld holds the tuple -/
def rListT (K : PySem.W.Frag) (C : Addr) (fld : Str) : List V → Hp → VK → Prop := fun xs H Q => ∃ a dx fs t zs, xs = [.ref a] ∧ H a = some (.ins C dx fs) ∧ fs.lookup fld = some (.ref t) ∧ SqT K H t zs ∧ zs.length ≤ 1000 ∧ ∀ q, H q = none → Q (.ref q) (upd H q (.lst zs))
/-- the length such an object tells -/
def spLenT (K : PySem.W.Frag) (C : Addr) (fld : Str) : Sp := fun vs H Q _ => ∃ a dx fs t zs, vs = [.ref a] ∧ H a = some (.ins C dx fs) ∧ fs.lookup fld = some (.ref t) ∧ SqT K H t zs ∧ Q (.int zs.length) H
structure LenC (X : Cx) (n : Nat) (C g : Addr) (fld : Str) : Prop where
  at_ : PySem.W.findIn X.K (.ref C) "__len__" = some (some (.ref g))
  fn : PySem.W.isFn X.K (.ref g) = true
  ok : FnR X.prog X.w X.K X.mg X.base CX0 n g (spLenT X.K C fld)
section
variable {X : Cx} {pins : List (Addr × Obj)} {σ : L2.St} {H : Hp} {s : Shared} {A : Around} {n : Nat} {C g gl a q t it dx : Addr} {fld : Str} {fs : List (Str × V)} {zs : List V}
theorem own_hintT {E' : Value → Shared → Prop} {Q : Bool → Shared → Prop} (sb : Sub X (n + 1) A) (T : LenC X n C gl fld) (I : Inv X pins σ H s) (ha : H a = some (.ins C dx fs)) (hf : fs.lookup fld = some (.ref t)) (ht : SqT X.K H t zs) (few : zs.length ≤ 1000)
    (h : ∀ s' b, Inv X pins σ H s' → Q b s') : wpAny (model X.prog X.w) A (Builtin.List.listLengthHint (.ref a)) Q E' s := by
  obtain ⟨mA, J, _⟩ := ins_get I.hok ha
  obtain ⟨od, J, _⟩ := J.look
  obtain ⟨m, hF⟩ := I.fr
  unfold Builtin.List.listLengthHint
  refine wpAny_bind (wpAny_bind (J.type.here ((PySem.W.looks_findIn I.kIn T.at_).here ?_)))
  refine PySem.W.KFB.if_not rfl ?_
  refine PySem.W.KFB.if_so rfl ?_
  refine wpAny_bind (wpAny_rule ?_)
  refine wpAny_bind (wpAny_attempt ?_)
  have hsp : spLenT X.K C fld [.ref a] H (fun v H' => v = .int zs.length ∧ H' = H) (fun _ _ _ => False) := ⟨a, dx, fs, t, zs, rfl, ha, hf, ht, rfl, rfl⟩
  refine PySem.W.len_K hF I.ok.mod.kin J T.at_ T.fn ?_
  refine wpAny_call (codeAny_mono (T.ok A.in1 X.stack s H [.ref a] [.ref a] _ _ sb.in1.room (sub_env sb.in1 I) (.cons rfl .nil) hsp) fun r s' hq => ?_)
  cases r with
  | error e => exact False.elim hq
  | ok fl =>
    cases fl with
    | next => exact False.elim hq
    | brk => exact False.elim hq
    | cont => exact False.elim hq
    | ret u =>
      obtain ⟨v, H', I', rv, ev, eH⟩ := I.after hq
      subst ev
      subst eH
      obtain ⟨tk, e⟩ := (show ∃ tk, u = Value.int zs.length tk from rv)
      cases e
      refine ⟨⟨by omega, by omega⟩, ?_⟩
      refine wpAny_bind (wpAny_pure ?_)
      refine PySem.W.KFB.if_not (by unfold Builtin.List.listTooLong; exact decide_eq_false (by rw [sizeLine_eq]; omega)) ?_
      exact wpAny_pure (h _ _ (I'.tok (s'.toks + 1)))
theorem call_listT (Ti : ItrC X n C g fld) (Tl : LenC X n C gl fld) (hc : X.calm = true) (hr : Room (n + 3) X.A) : CallR X (.type "list") (rListT X.K C fld) := by
  intro pins s σ H xs us Q I rv h
  obtain ⟨a, dx, fs, t, zs, rfl, ha, hf, ht, few, hq⟩ := h
  obtain ⟨u, rfl, ru⟩ := rv.one
  cases ru
  have sb : Sub X (n + 1) X.A.in1.in1 := (Sub.in1 (Sub.in1 (⟨hr, rfl⟩ : Sub X (n + 3) X.A)))
  refine callType_codes (Q₁ := fun obj s₁ => obj = .ref s.heap.objs.size ∧ s₁ = { s with heap := s.heap.push { cls := .type "list", data := .seq #[] } }) PySem.F.called_list (PySem.F.typeCall_list_1 _) PySem.F.entry_list_init
    (code_list_new _ ⟨rfl, rfl⟩) fun obj s₁ h₁ => ?_
  obtain ⟨rfl, rfl⟩ := h₁
  have hS : (s.heap.push { cls := .type "list", data := .seq #[] }).get? s.heap.objs.size = some { cls := .type "list", data := .seq #[] } := Heap.get?_push_size _ rfl
  refine ⟨⟨_, hS, rfl⟩, PySem.F.args_list_init_2 _ _, ?_⟩
  have fr : H s.heap.objs.size = none := I.hok.fresh (Nat.le_refl _)
  have hq := hq _ fr
  have I1 : Inv X pins σ (upd H s.heap.objs.size (.lst [])) { s with heap := s.heap.push { cls := .type "list", data := .seq #[] } } := I.lnew (its := []) (t' := s.toks) .nil (Nat.zero_le _)
  show wpAny _ _ (do let old ← Builtin.List.listItems (.ref s.heap.objs.size); Builtin.List.listUpdate (.ref s.heap.objs.size) (fun _ => #[]); letGo old.toList.reverse; Builtin.List.listExtendWith (.ref s.heap.objs.size) (.ref a) .none) _ _ _
  refine wpAny_bind ?_
  unfold Builtin.List.listItems
  refine wpAny_bind (wpAny_seqItems hS rfl (wpAny_pure ?_))
  show wpAny _ _ (updateSeq s.heap.objs.size (fun _ => #[]) >>= fun _ => letGo (#[] : Array Value).toList.reverse >>= fun _ => Builtin.List.listExtendWith (.ref s.heap.objs.size) (.ref a) .none) _ _ _
  refine wpAny_bind (wpAny_updateSeq hS rfl ?_)
  have I2 := I1.lset (f := fun _ => #[]) (its := []) (its' := []) (ys := []) (t' := s.toks) upd_same hS rfl .nil (Nat.zero_le _)
  rw [upd_upd] at I2
  refine wpAny_bind (wpAny_letGo ?_)
  generalize hQ : s.heap.objs.size = q at I2 fr hq ⊢
  have sH : Same H (upd H q (.lst [])) := K0.Same.new _ fr
  have hne : q ≠ a := (ne_of_none ha fr).symm
  have ha2 := sH _ _ ha
  have ht2 := seqT sH ht
  obtain ⟨mA, J, _⟩ := ins_get I2.hok ha2
  obtain ⟨od, J, _⟩ := J.look
  unfold Builtin.List.listExtendWith
  refine wpAny_bind (J.type.here ?_)
  have h1 : Builtin.List.listSameRef (.ref q) (.ref a) = false := by simp [Builtin.List.listSameRef, hne]
  have h2 : (Value.ref C == Value.type "list") = false := rfl
  have h3 : (Value.ref C == Value.type "tuple") = false := rfl
  simp only [h1, h2, h3, Bool.or_false, Bool.false_eq_true, if_false]
  refine wpAny_bind (own_iterT0 (sb.mono (Nat.le_succ n)) Ti I2 ha2 hf ht2 fun it s3 I3 hn3 hz3 => ?_)
  have sI : Same (upd H q (.lst [])) (upd (upd H q (.lst [])) it (TitO t it)) := K0.Same.new _ hn3
  refine wpAny_bind (wpAny_holding (own_hintT sb Tl I3 (sI _ _ ha2) hf (seqT sI ht2) few fun s4 bb I4 => ?_))
  obtain ⟨I5, fp5, st5⟩ := tit_drop I4 hn3 hz3
  have qi : it ≠ q := fun e => by rw [e, upd_same] at hn3; cases hn3
  have fpH : FpOk X pins H it := FpOk.moved fp5 (by rw [upd_ne qi] at hn3; exact hn3)
  have done : ∀ s, Inv X pins σ (upd H q (.lst zs)) s → wants (fun r s₂ => r = .none ∧ EP X pins σ Q (.ref q) s₂) X.xe (.ok (.ret .none)) s := fun s' I' => ⟨rfl, .ref q, _, I', rfl, hq⟩
  have I5' : Inv X pins σ (upd H q (.lst (zs.take 0))) s4 := by rw [List.take_zero]; exact I5
  have hd1 : X.A.in1.in1.handled = none := I.ok.hd hc
  refine wpAny_ite_split (fun _ => ?_) (fun _ => wpAny_pure ⟨plainId_quiet PySem.F.plain_extend_loop _, tup_loop (A1 := X.A.in1) hd1 (by rw [sizeLine_eq]; omega) fr ht fpH qi done zs.length 0 s4 (Nat.zero_add _) I5' st5⟩)
  refine wpAny_bind (wpAny_rule ?_)
  refine wpAny_bind ?_
  show wpAny _ _ (updateSeq q (·.push .none) >>= fun _ => updateSeq q (·.pop)) _ _ _
  obtain ⟨z, its, k, r3, hl3, e3⟩ := I5.lstM upd_same
  cases r3
  refine wpAny_bind (wpAny_updateSeq e3 rfl ?_)
  have I6 := I5.lset (f := (·.push Value.none)) (its' := [Value.none]) (ys := [.non]) (t' := s4.toks) upd_same e3 (by simp) (.cons rfl .nil) (by rw [List.length_singleton, sizeLine_eq]; decide)
  obtain ⟨z4, its4, k4, r4, hl4, e4⟩ := I6.lstM upd_same
  obtain ⟨u4, rfl, ru4⟩ := r4.one
  refine wpAny_updateSeq e4 rfl ?_ (by show 1 ≤ sizeLine; rw [sizeLine_eq]; decide) (by show 0 ≤ sizeLine + 1; exact Nat.zero_le _)
  have I7 := I6.lset (f := (·.pop)) (its := [u4]) (its' := []) (ys := []) (t' := s4.toks) upd_same e4 (by rfl) .nil (Nat.zero_le _)
  rw [upd_upd, upd_upd] at I7
  have e0 : upd H q (.lst []) = upd H q (.lst (zs.take 0)) := by rw [List.take_zero]
  rw [e0] at I7
  refine wpAny_pure ⟨plainId_quiet PySem.F.plain_extend_loop _, tup_loop (A1 := X.A.in1) hd1 (by rw [sizeLine_eq]; omega) fr ht fpH qi done zs.length 0 _ (Nat.zero_add _) I7 ?_⟩
  obtain ⟨o, ho, hr⟩ := st5
  exact ⟨o, (Heap.get?_update_other _ _ (Ne.symm qi)).trans ((Heap.get?_update_other _ _ (Ne.symm qi)).trans ho), hr⟩
end
/-- for x in o -/
def iOwnT (K : PySem.W.Frag) (C : Addr) (fld : Str) (ta : TE) : TI := fun σ H R => ta σ H fun x H1 => ∃ a dx fs t zs, x = .ref a ∧ H1 a = some (.ins C dx fs) ∧ fs.lookup fld = some (.ref t) ∧ SqT K H1 t zs ∧ R (Itt K t) H1
section
variable {X : Cx} {tg e : Expr} {ta : TE} {n : Nat} {C g : Addr} {fld : Str}
theorem pi_ownT (T : ItrC X n C g fld) (hr : Room n X.A) (he : PE X e ta) : PI X tg e (iOwnT X.K C fld ta) := by
  refine ⟨fun pins s σ H R I h => ?_⟩
  refine thn (he.run pins s σ H _ I h) fun v s1 ⟨x, H1, I1, r1, a, dx, fs, t, zs, ex, ha, hf, ht, q⟩ => ?_
  subst ex
  cases r1
  refine own_iterT (A := X.A) ⟨hr, rfl⟩ T I1 ha hf ht fun it s' I' fp st => ?_
  refine ⟨it, [it], _, _, H1, rfl, I', turn_tuple t it, st, fun b hb => ?_, q⟩
  have e : b = it := by simpa using hb
  rw [e]
  exact fp
end
end K0

/-! ## R1 -/
set_option maxRecDepth 100000
set_option maxHeartbeats 2000000
namespace K0
open PySem L2 NS RZ
/-! ### is_ascending -/
section
variable {K : PySem.W.Frag} {a b : Addr} {xs ys : List V}
theorem walk_zipT {n : Nat} (hn : n = min xs.length ys.length) : Walk (ItzT K a b) n (fun H => SqT K H a xs ∧ SqT K H b ys) (YPair (fun i => xs[i]?) (fun i => ys[i]?)) := by
  subst hn
  refine ⟨fun i _ hi q => ?_, fun _ q => ⟨xs, ys, q.1, q.2, by omega⟩, fun i H v H' _ q y => ?_⟩
  · have h1 : i < xs.length := by omega
    have h2 : i < ys.length := by omega
    exact ⟨xs, ys, xs[i], ys[i], q.1, q.2, by simp [h1], by simp [h2]⟩
  · obtain ⟨T, x, z, h1, h2, h3, h4, h5⟩ := y
    exact ⟨T, x, z, h1, h2, h3, h4 xs q.1, h5 ys q.2⟩
end
abbrev sIsAsc : Stmt := top 17
/-- the keys ascend, each under the next -/
def ascB : List NestedKey → Bool
  | a :: b :: r => ltK a b && ascB (b :: r)
  | _ => true
/-- Python has an order of each two neighbours -/
def okAdj : List NestedKey → Prop
  | a :: b :: r => okK a b = true ∧ okAdj (b :: r)
  | _ => True
theorem ascB_at : ∀ ks : List NestedKey, ((List.range (ks.length - 1)).map fun i => ltK (ks.getD i .none) (ks.getD (i + 1) .none)).all id = ascB ks
  | [] => rfl
  | [a] => rfl
  | a :: b :: r => by
    have ih := ascB_at (b :: r)
    have e : (a :: b :: r).length - 1 = ((b :: r).length - 1) + 1 := by simp
    rw [e, List.range_succ_eq_map, List.map_cons, List.all_cons, List.map_map]
    show (ltK a b && _) = (ltK a b && ascB (b :: r))
    rw [← ih]
    rfl
theorem okAdj_at : ∀ (ks : List NestedKey) (i : Nat), okAdj ks → i + 1 < ks.length → okK (ks.getD i .none) (ks.getD (i + 1) .none) = true
  | [], i, _, h => absurd h (Nat.not_lt_zero _)
  | [a], i, _, h => by simp at h
  | a :: b :: r, 0, o, _ => o.1
  | a :: b :: r, i + 1, o, h => okAdj_at (b :: r) i o.2 (by simpa using h)
theorem kvAll_at {K : PySem.W.Frag} {H : Hp} : ∀ {vs : List V} {ks : List NestedKey}, KvAll K H vs ks → ∀ i x, vs[i]? = some x → Kv K H x (ks.getD i .none)
  | _, _, .nil, i, x, h => by simp at h
  | _, _, .cons (k := k) h1 h2, 0, x, h => by
    obtain rfl := Option.some.inj h
    exact h1
  | _, _, .cons h1 h2, i + 1, x, h => kvAll_at h2 i x h
theorem kvAll_len {K : PySem.W.Frag} {H : Hp} : ∀ {vs : List V} {ks : List NestedKey}, KvAll K H vs ks → vs.length = ks.length
  | _, _, .nil => rfl
  | _, _, .cons h1 h2 => by rw [List.length_cons, List.length_cons, kvAll_len h2]
theorem kvAll_same {K : PySem.W.Frag} {H H' : Hp} (s : Same H H') {vs : List V} {ks : List NestedKey} (h : KvAll K H vs ks) : KvAll K H' vs ks := kvs_same (fun _ _ q => seqT s q) _ _ h
def spIsAsc (K : PySem.W.Frag) : Sp := fun vs H Q _ => ∃ (a : Addr) (xs : List V) (ks : List NestedKey), vs = [.ref a] ∧ SqT K H a xs ∧ xs ≠ [] ∧ xs.length ≤ 1000 ∧ KvAll K H xs ks ∧ okAdj ks ∧ (∀ k ∈ ks, k.depth ≤ 8) ∧ ∀ H', Same H H' → Q (.bl (ascB ks)) H'
structure TZ (K : PySem.W.Frag) (mg : Str → Option Value) : Prop where
  zip : mg "zip" = none
  all : mg "all" = none
theorem gPair_mono' {K : PySem.W.Frag} {i j : Nat} : ∀ x σ H (P R : L2.St → Hp → Prop), (∀ σ2 H2, P σ2 H2 → R σ2 H2) → gTup K 2 (gCons (gName i) (gCons (gName j) gNil)) x σ H P → gTup K 2 (gCons (gName i) (gCons (gName j) gNil)) x σ H R := gPair_mono
section
variable {P : Program} {w : World} {K : PySem.W.Frag} {mg : Str → Option Value} {base : Heap}
abbrev nIsAsc : List Str := ["values", "one", "other"]
theorem scIsAsc : FnScope nIsAsc ["values"] (defScope sIsAsc) := ⟨rfl, rfl, rfl, by decide +kernel, rfl, by decide +kernel, by decide +kernel⟩
theorem ok_isAsc {f : Addr} {fd : FuncData} (F : Fun K "is_ascending" "is_ascending" sIsAsc f fd) (T : TZ K mg) : FnOk P w K mg base CX0 1 f fd ["values"] (spIsAsc K) := by
  refine F.ok scIsAsc (fun vs H Q E h => ?_) (fun cdv A outer s H vs Q E hr h => ?_)
  · obtain ⟨a, xs, ks, rfl, _⟩ := h
    rfl
  · obtain ⟨a, xs, ks, rfl, ha, ne, few, kv, ok, dp, k⟩ := h
    refine ⟨_, pss_one (ps_ret (pe_callB (cr_all rfl) (by rfl) T.all (by decide +kernel) (pa_cons (pe_lc (own := [("one", 1), ("other", 2)]) (g := gTup K 2 (gCons (gName 1) (gCons (gName 2) gNil))) (tt := tYes) rfl scIsAsc.nd
      (pi_zipA (by rfl) T.zip (pa_cons (pv 0) (pa_cons (pe_slice sl_tup (pv 0) (po_some pe_int) po_none) pa_nil)))
      (blkOk_by (own := [("one", 1), ("other", 2)]) (N := nIsAsc) (sc := defScope sIsAsc) (by decide +kernel))
      (fun _ _ _ _ _ => pg_tup rfl (pgs_cons (pg_name (i := 1) scIsAsc.nd rfl (Or.inl rfl)) (pgs_cons (pg_name (i := 2) scIsAsc.nd rfl (Or.inl rfl)) pgs_nil))) (fun _ _ _ _ _ => pts_nil)
      (fun _ _ _ _ _ => pe_cmpR (r := rLtN K) (op_ltN hr.units) (pv 1) (pv 2) (nomark _))) pa_nil))), ?_⟩
    have n1 : xs.length = ks.length := kvAll_len kv
    have pos : 0 < xs.length := List.length_pos_iff.mpr ne
    refine ⟨_, rfl, _, rfl, ⟨1, rfl, ⟨a, xs, rfl, ha, ?_, fun b hb => ?_⟩⟩⟩
    · rintro ⟨e, _⟩
      have z : HT.sIx xs.length 0 (some ((1 : Nat) : Int)) = min 1 xs.length := HT.sIx_nat _ _ 1
      have e' : HT.sIx xs.length 0 (some ((1 : Nat) : Int)) = 0 := e
      omega
    · have ec : cutV xs (some 1) none = xs.drop 1 := by
        unfold cutV
        have z : HT.sIx xs.length 0 (some ((1 : Nat) : Int)) = min 1 xs.length := HT.sIx_nat _ _ 1
        have z2 : HT.sIx xs.length 0 (some 1) = 1 := by
          have z3 : HT.sIx xs.length 0 (some 1) = min 1 xs.length := z
          omega
        rw [z2, HT.sIx_none]
        exact List.take_of_length_le (by rw [List.length_drop]; omega)
      rw [ec]
      have s1 : Same H (upd H b (.tup (xs.drop 1))) := K0.Same.new _ hb
      have hl : (xs.drop 1).length = xs.length - 1 := List.length_drop
      refine ⟨a, b, xs, xs.drop 1, rfl, .inr ⟨seqT s1 ha, SqT.of upd_same, fun D hD => lc_pure (f := fun i => .bl (ltK (ks.getD i .none) (ks.getD (i + 1) .none))) (walk_zipT (n := xs.length - 1) (by omega)) (by rw [sizeLine_eq]; omega) hD
        (fun H1 s2 => ⟨seqT (K0.Same.tr s1 s2) ha, SqT.of (s2 _ _ upd_same)⟩) ?_ gPair_mono ?_⟩⟩
      · rintro i x H2 H3 hi s2 ⟨T, y, z, rfl, hT, rfl, hy, hz⟩
        have hz' : xs[i + 1]? = some z := by
          have q : (xs.drop 1)[i]? = some z := hz
          rw [List.getElem?_drop, Nat.add_comm] at q
          exact q
        refine ⟨T, _, rfl, SqT.of upd_same, rfl, _, _, rfl, _, _, rfl, rfl, rfl, fun Q' q => ⟨_, rfl, _, rfl, ?_⟩⟩
        have sT : Same H2 (upd H2 T (.tup [y, z])) := K0.Same.new _ hT
        have s3 : Same H (upd H2 T (.tup [y, z])) := K0.Same.tr s1 (K0.Same.tr s2 sT)
        have kv2 := kvAll_same s3 kv
        exact ⟨_, _, kvAll_at kv2 i y hy, kvAll_at kv2 (i + 1) z hz', okAdj_at ks i ok (by omega), dp _ (by
          have : i < ks.length := by omega
          have e : ks.getD i .none = ks[i] := by simp [List.getD, this]
          rw [e]
          exact List.getElem_mem this), q _ sT⟩
      · intro H2 s2 hD2
        refine ⟨D, (List.range (xs.length - 1)).map fun i => ltK (ks.getD i .none) (ks.getD (i + 1) .none), rfl, ?_, ?_⟩
        · rw [List.map_map]
          exact SqL.of hD2
        · rw [n1, ascB_at]
          exact k H2 (K0.Same.tr s1 s2)
end
end K0

/-! ## R2 -/
set_option maxRecDepth 100000
set_option maxHeartbeats 2000000
namespace K0
open PySem L2 NS RZ
/-! ### _tables_of -/
abbrev sTabsOf : Stmt := top 25
def tabsOf (cs : List CL) : List (Key × V) := cs.foldl (fun kvs c => putK kvs (Sum.inr c.1) (V.int c.2.length)) []
theorem tabsOf_take (cs : List CL) (i : Nat) (c : CL) (h : cs[i]? = some c) : tabsOf (cs.take (i + 1)) = putK (tabsOf (cs.take i)) (Sum.inr c.1) (V.int c.2.length) := by
  unfold tabsOf
  rw [List.take_add_one, h, Option.toList, List.foldl_append]
  rfl
theorem tabsOf_snoc (cs : List CL) (c : CL) : tabsOf (cs ++ [c]) = putK (tabsOf cs) (Sum.inr c.1) (V.int c.2.length) := by
  unfold tabsOf
  rw [List.foldl_append]
  rfl
theorem snoc_ind {α : Type} {p : List α → Prop} (h0 : p []) (hs : ∀ l a, p l → p (l ++ [a])) (l : List α) : p l := by
  have z : ∀ r : List α, p r.reverse := by
    intro r
    induction r with
    | nil => exact h0
    | cons a r ih => rw [List.reverse_cons]; exact hs _ _ ih
  have q := z l.reverse
  rwa [List.reverse_reverse] at q
theorem tabsOf_len (cs : List CL) : (tabsOf cs).length ≤ cs.length := by
  induction cs using snoc_ind with
  | h0 => exact Nat.le_refl _
  | hs l c ih =>
    rw [tabsOf_snoc, List.length_append]
    have := length_putK (tabsOf l) (Sum.inr c.1 : Key) (V.int c.2.length)
    simp only [List.length_singleton]
    omega
theorem tabsOf_val (cs : List CL) (same : ∀ c ∈ cs, ∀ c' ∈ cs, c.1 = c'.1 → c.2.length = c'.2.length) : ∀ c ∈ cs, valV (tabsOf cs) (Sum.inr c.1 : Key) = some (V.int c.2.length) := by
  induction cs using snoc_ind with
  | h0 => intro c h; cases h
  | hs l a ih =>
    intro c hc
    rw [tabsOf_snoc, valV_put]
    by_cases e : (Sum.inr c.1 : Key) = Sum.inr a.1
    · rw [if_pos e]
      have e2 : c.1 = a.1 := by
        injection e
      rw [same c hc a (List.mem_append_right _ List.mem_cons_self) e2]
    · rw [if_neg e]
      rcases List.mem_append.mp hc with h | h
      · exact ih (fun x hx y hy => same x (List.mem_append_left _ hx) y (List.mem_append_left _ hy)) c h
      · rw [List.mem_singleton.mp h] at e
        exact absurd rfl e
def spTabsOf (K : PySem.W.Frag) : Sp := fun vs H Q _ => ∃ (a : Addr) (ts : List Addr) (cs : List CL), vs = [.ref a] ∧ SqT K H a (ts.map V.ref) ∧ Cls H ts cs ∧ ts.length ≤ 1000 ∧ ∀ d H', Same H H' → H d = none → H' d = some (.dK (tabsOf cs)) → Q (.ref d) H'
def rLenS (K : PySem.W.Frag) : List V → Hp → VK → Prop := fun xs H Q => ∃ p ys, xs = [.ref p] ∧ (SqL K H p ys ∨ SqT K H p ys) ∧ Q (.int ys.length) H
section
variable {P : Program} {w : World} {K : PySem.W.Frag} {mg : Str → Option Value} {base : Heap}
abbrev nTabsOf : List Str := ["clauses", "table", "columns"]
theorem scTabsOf : FnScope nTabsOf ["clauses"] (defScope sTabsOf) := ⟨rfl, rfl, rfl, by decide +kernel, rfl, by decide +kernel, by decide +kernel⟩
theorem ok_tabsOf {f : Addr} {fd : FuncData} (F : Fun K "_tables_of" "_tables_of" sTabsOf f fd) (T : TA K mg) : FnOk P w K mg base CX0 1 f fd ["clauses"] (spTabsOf K) := by
  refine F.ok scTabsOf (fun vs H Q E h => ?_) (fun cdv A outer s H vs Q E hr h => ?_)
  · obtain ⟨a, ts, cs, rfl, _⟩ := h
    rfl
  · obtain ⟨a, ts, cs, rfl, ha, hc, many, k⟩ := h
    refine ⟨_, pss_one (ps_ret (pe_dc (own := [("table", 1), ("columns", 2)]) (g := gTup K 2 (gCons (gName 1) (gCons (gName 2) gNil))) (tt := tYes) (tk := tVar 1) (tv := tCB (rLenS K) (tCons (tVar 2) tNil)) rfl scTabsOf.nd (pi_tup (pv 0))
      (blkOk_by (own := [("table", 1), ("columns", 2)]) (N := nTabsOf) (sc := defScope sTabsOf) (by decide +kernel))
      (fun _ _ _ _ _ => pg_tup rfl (pgs_cons (pg_name (i := 1) scTabsOf.nd rfl (Or.inl rfl)) (pgs_cons (pg_name (i := 2) scTabsOf.nd rfl (Or.inl rfl)) pgs_nil))) (fun _ _ _ _ _ => pts_nil)
      (fun _ _ _ _ _ => pv 1) (fun _ _ _ _ _ => pe_callB (id := "len") (r := rLenS K) call_len_seq (by rfl) T.len PySem.boot_len (pa_cons (pv 2) pa_nil)))), ?_⟩
    refine ⟨_, rfl, a, rfl, ⟨_, ha⟩, fun D hD => dc_tup (K := K) (a := a) (xs := ts.map V.ref) (fun i H' => Same H H' ∧ H' D = some (.dK (tabsOf (cs.take i)))) ⟨K0.Same.new _ hD, upd_same⟩ (fun i H' _ s => seqT s.1 ha) ?_ ?_⟩
    · rintro i x H1 hx ⟨s1, e1⟩
      rw [List.getElem?_map] at hx
      obtain ⟨t, ht, rfl⟩ := Option.map_eq_some_iff.mp hx
      obtain ⟨hti, et⟩ := List.getElem?_eq_some_iff.mp ht
      obtain ⟨c, hci, hA⟩ := hc.at_ i hti
      rw [et] at hA
      obtain ⟨t2, g1, g2⟩ := hA
      refine ⟨t, _, rfl, SqT.of (s1 _ _ g1), rfl, _, _, rfl, _, _, rfl, rfl, rfl, ?_⟩
      dsimp only [tYes]
      rw [if_pos rfl]
      have lz := tabsOf_len (cs.take i)
      rw [List.length_take] at lz
      refine ⟨_, rfl, _, rfl, t2, _, rfl, .inr (SqT.of (s1 _ _ g2)), _, Sum.inr c.1, rfl, e1, by rw [sizeLine_eq]; omega, fun b o e => ?_, ?_⟩
      · rw [upd_ne (ne_of_none e hD)]
        exact s1 _ _ e
      · rw [upd_same, tabsOf_take _ _ _ hci, List.length_map]
    · rintro H1 ⟨s1, e1⟩
      rw [List.length_map, hc.len, List.take_length] at e1
      exact k D H1 s1 hD e1
end
end K0

/-! ## R3 -/
set_option maxRecDepth 100000
set_option maxHeartbeats 2000000
namespace K0
open PySem L2 NS RZ
/-! ### _are_clauses, of clauses -/
abbrev sAreCl : Stmt := top 26
/-- clauses of a question -/
structure WfC (cs : List CL) : Prop where
  some_ : cs ≠ []
  few : cs.length ≤ 8
  tab : ∀ c ∈ cs, nameS c.1 = true
  nam : ∀ c ∈ cs, ∀ k ∈ c.2, nameS k = true
  wide : ∀ c ∈ cs, 1 ≤ c.2.length ∧ c.2.length ≤ 8
  up : cs.Pairwise fun c c' => ltC c c' = true
  same : ∀ c ∈ cs, ∀ c' ∈ cs, c.1 = c'.1 → c.2.length = c'.2.length
  cols : ∃ pool : List Str, pool.length ≤ 8 ∧ ∀ c ∈ cs, ∀ k ∈ c.2, k ∈ pool
theorem colsIn_mem {cs : List CL} {k : Str} : k ∈ colsIn cs ↔ ∃ c ∈ cs, k ∈ c.2 := by
  unfold colsIn
  exact List.mem_flatMap
theorem WfC.ncols {cs : List CL} (g : WfC cs) {ns : List Str} (h : IsCols (colsIn cs) ns) : ns.length ≤ 8 := by
  obtain ⟨pool, p1, p2⟩ := g.cols
  refine Nat.le_trans (nodup_le ns pool h.2.1 fun k hk => ?_) p1
  obtain ⟨c, hc, q⟩ := colsIn_mem.mp ((h.2.2 k).mp hk)
  exact p2 c hc k q
theorem WfC.total {cs : List CL} (g : WfC cs) : (colsIn cs).length ≤ 64 := by
  have z := colsIn_few (cs := cs) (k := 8) fun c hc => (g.wide c hc).2
  have := g.few
  omega
def spAreCl (K : PySem.W.Frag) : Sp := fun vs H Q _ => ∃ (a : Addr) (ts : List Addr) (cs : List CL), vs = [.ref a] ∧ SqT K H a (ts.map V.ref) ∧ Cls H ts cs ∧ WfC cs ∧ (colsIn cs).length < 64 ∧ ∀ H', Same H H' → Q (.bl true) H'
theorem tyT {K : PySem.W.Frag} {H : Hp} {a : Addr} {xs : List V} (h : SqT K H a xs) : TyX K H (.ref a) (.type "tuple") := by
  rcases h with (h | ⟨o, h⟩) | ⟨o, its, n, h1, h2, _⟩
  · exact .base (.tup h)
  · exact .fTuple h
  · exact .kTuple h1 h2
theorem cls_kv {K : PySem.W.Frag} {H : Hp} : ∀ {ts : List Addr} {cs : List CL}, Cls H ts cs → KvAll K H (ts.map V.ref) (cs.map keyC)
  | _, _, .nil => .nil
  | _, _, .cons h r => .cons (h.kr (K := K)).1 (cls_kv r)
theorem okAdj_cls : ∀ cs : List CL, okAdj (cs.map keyC)
  | [] => True.intro
  | [a] => True.intro
  | a :: b :: r => ⟨ok_clauses a b, okAdj_cls (b :: r)⟩
theorem ascB_cls : ∀ {cs : List CL}, cs.Pairwise (fun c c' => ltC c c' = true) → ascB (cs.map keyC) = true
  | [], _ => rfl
  | [a], _ => rfl
  | a :: b :: r, h => by
    obtain ⟨h1, h2⟩ := List.pairwise_cons.mp h
    show (ltK (keyC a) (keyC b) && ascB ((b :: r).map keyC)) = true
    rw [ascB_cls h2, Bool.and_true]
    exact h1 b List.mem_cons_self
theorem nameS_len {z : Str} (h : nameS z = true) : z.length ≤ 8 := by
  unfold nameS at h
  rw [Bool.and_eq_true, Bool.and_eq_true] at h
  exact of_decide_eq_true h.1.2
/-- a clause of names is one -/
theorem ClA.clv {K : PySem.W.Frag} {H : Hp} {t : Addr} {c : CL} (h : ClA H t c) (h1 : nameS c.1 = true) (h2 : ∀ k ∈ c.2, nameS k = true) (h3 : 1 ≤ c.2.length ∧ c.2.length ≤ 8) : ClV K H (.ref t) true := by
  obtain ⟨t2, g1, g2⟩ := h
  have sz : ∀ x ∈ c.2.map V.str, Da H x ∧ Sz x := fun x hx => by
    obtain ⟨z, hz, rfl⟩ := List.mem_map.mp hx
    exact ⟨.str z, Nat.le_trans (nameS_len (h2 z hz)) (by decide)⟩
  have z := ClV.pair (K := K) g1 (.str c.1) (show Sz (.str c.1) from Nat.le_trans (nameS_len h1) (by decide)) (.tup g2) (fun a xs e h => by
    cases e
    rw [g2] at h
    cases h
    exact ⟨by rw [List.length_map]; omega, sz⟩)
  have e : (nameV (.str c.1) && (onTup H (fun ys => ys.all nameV) (.ref t2) && onTup H (fun ys => widB ys.length) (.ref t2))) = true := by
    simp only [onTup, g2]
    have e1 : nameV (.str c.1) = true := h1
    have e2 : (c.2.map V.str).all nameV = true := by
      rw [List.all_map, List.all_eq_true]
      exact h2
    have e3 : widB (c.2.map V.str).length = true := by
      rw [List.length_map]
      unfold widB
      rw [decide_eq_true h3.1, decide_eq_true h3.2]
      rfl
    rw [e1, e2, e3]
    rfl
  rw [e] at z
  exact z
theorem all_true {n : Nat} : ((List.range n).map fun _ => true).all id = true := by
  rw [List.all_map]
  exact List.all_eq_true.mpr fun _ _ => rfl
structure TC (K : PySem.W.Frag) (mg : Str → Option Value) (fI fW fN : Addr) : Prop extends T3 K mg fI fW fN where
  mc : ∃ t, mg "MAX_CLAUSES" = some (.int 8 t)
  mcol : ∃ t, mg "MAX_COLUMNS" = some (.int 8 t)
section
variable {P : Program} {w : World} {K : PySem.W.Frag} {mg : Str → Option Value} {base : Heap} {fI fW fN fC fA fT fO : Addr} {fdC fdA fdT fdO : FuncData}
abbrev nAreCl : List Str := ["value", "widths", "clause", "table", "columns"]
theorem scAreCl : FnScope nAreCl ["value"] (defScope sAreCl) := ⟨rfl, rfl, rfl, by decide +kernel, rfl, by decide +kernel, by decide +kernel⟩
theorem ok_areCl {f : Addr} {fd : FuncData} (F : Fun K "_are_clauses" "_are_clauses" sAreCl f fd) (T : TC K mg fI fW fN)
    (eC : Gl K mg "is_clause" fC) (GC : FnOk P w K mg base CX0 3 fC fdC ["value"] (spIsCl K)) (bC : Binds K fdC ["value"] [])
    (eA : Gl K mg "is_ascending" fA) (GA : FnOk P w K mg base CX0 1 fA fdA ["values"] (spIsAsc K)) (bA : Binds K fdA ["values"] [])
    (eT : Gl K mg "_tables_of" fT) (GT : FnOk P w K mg base CX0 1 fT fdT ["clauses"] (spTabsOf K)) (bT : Binds K fdT ["clauses"] [])
    (eO : Gl K mg "_columns_of" fO) (GO : FnOk P w K mg base CX0 1 fO fdO ["clauses"] (spColsOf K)) (bO : Binds K fdO ["clauses"] []) :
    FnOk P w K mg base CX0 4 f fd ["value"] (spAreCl K) := by
  refine F.ok scAreCl (fun vs H Q E h => ?_) (fun cdv A outer s H vs Q E hr h => ?_)
  · obtain ⟨a, ts, cs, rfl, _⟩ := h
    rfl
  · obtain ⟨a, ts, cs, rfl, ha, hc, g, tot, k⟩ := h
    have hr1 : Room 1 _ := hr.mono (by decide)
    obtain ⟨tm, hm⟩ := T.mc
    obtain ⟨tk, hk⟩ := T.mcol
    refine ⟨_, pss_cons (ps_if (pw_or (pt_not (pt_val (pe_callB call_isi (by rfl) T.isi (by decide +kernel) (pa_cons (pv 0) (pa_cons (pe_bltn (v := .ty "tuple") (by rfl) T.tup (by decide +kernel) rfl) pa_nil)))))
        (pw_or1 (pt_not (pt_chain op_le op_le pe_int (pe_callB call_len_seq (by rfl) T.len PySem.boot_len (pa_cons (pv 0) pa_nil)) (pe_glob (v := .int 8) (by rfl) hm ⟨tm, rfl⟩))))).pt (pss_one (ps_ret pe_bl)) pss_nil)
      (pss_cons (ps_if (pw_or (pt_not (pt_val (pe_callB (cr_all rfl) (by rfl) T.all (by decide +kernel) (pa_cons (pe_lc (own := [("clause", 2)]) (g := gName 2) (tt := tYes) rfl scAreCl.nd (pi_tup (pv 0))
          (blkOk_by (own := [("clause", 2)]) (N := nAreCl) (sc := defScope sAreCl) (by decide +kernel)) (fun _ _ _ _ _ => pg_name (i := 2) scAreCl.nd rfl (Or.inl rfl)) (fun _ _ _ _ _ => pts_nil)
          (fun _ _ _ _ _ => pe_call GC hr (by rfl) eC.g eC.k bC .nil pass0 (pa_cons (pv 2) pa_nil))) pa_nil))))
        (pw_or1 (pt_not (pt_val (pe_call GA hr1 (by rfl) eA.g eA.k bA .nil pass0 (pa_cons (pv 0) pa_nil)))))).pt (pss_one (ps_ret pe_bl)) pss_nil)
      (pss_cons (ps_set (i := 1) scAreCl.nd rfl (Or.inr rfl) (pe_call GT hr1 (by rfl) eT.g eT.k bT .nil pass0 (pa_cons (pv 0) pa_nil)))
      (pss_one (ps_ret (pe_and (pe_cmpR op_le (pe_callB call_len_seq (by rfl) T.len PySem.boot_len (pa_cons (pe_call GO hr1 (by rfl) eO.g eO.k bO .nil pass0 (pa_cons (pv 0) pa_nil)) pa_nil)) (pe_glob (v := .int 8) (by rfl) hk ⟨tk, rfl⟩) (nomark _))
        (pe_one (pe_callB (cr_all rfl) (by rfl) T.all (by decide +kernel) (pa_cons (pe_lc (own := [("table", 3), ("columns", 4)]) (g := gTup K 2 (gCons (gName 3) (gCons (gName 4) gNil))) (tt := tYes) rfl scAreCl.nd (pi_tup (pv 0))
          (blkOk_by (own := [("table", 3), ("columns", 4)]) (N := nAreCl) (sc := defScope sAreCl) (by decide +kernel))
          (fun _ _ _ _ _ => pg_tup rfl (pgs_cons (pg_name (i := 3) scAreCl.nd rfl (Or.inl rfl)) (pgs_cons (pg_name (i := 4) scAreCl.nd rfl (Or.inl rfl)) pgs_nil))) (fun _ _ _ _ _ => pts_nil)
          (fun _ _ _ _ _ => pe_cmpR op_eq (pe_dget (lt1 hr.units) (pv 1) (pv 3) (fun _ _ => rfl)) (pe_callB (id := "len") (r := rLenS K) call_len_seq (by rfl) T.len PySem.boot_len (pa_cons (pv 4) pa_nil)) (nomark _))) pa_nil)))))))), ?_⟩
    have n1 : ts.length = cs.length := hc.len
    have c8 := g.few
    have c1 : 0 < cs.length := List.length_pos_iff.mpr g.some_
    refine ⟨_, rfl, _, _, _, _, true, rfl, .ty _, tyT ha, kit_ty (by decide +kernel), true, rfl, if_neg_of rfl ⟨_, rfl, a, _, rfl, .inr ha, _, _, rfl, rfl, _, rfl, ?_⟩⟩
    rw [List.length_map]
    refine if_pos_of (decide_eq_true (by omega)) ⟨_, _, rfl, rfl, _, rfl, ?_⟩
    rw [decide_eq_true (show (ts.length : Int) ≤ 8 by omega)]
    refine if_neg_of rfl ?_
    refine ⟨_, rfl, a, rfl, ⟨_, ha⟩, fun D hD => lc_pure (f := fun _ => .bl true) (walk_tup (K := K) (a := a) (xs := ts.map V.ref)) (by rw [List.length_map, sizeLine_eq]; omega) hD (fun H1 s1 => seqT s1 ha) ?_ gName_mono ?_⟩
    · rintro i x H1 H2 hi s1 ⟨rfl, hx⟩
      rw [List.getElem?_map] at hx
      obtain ⟨t, ht, rfl⟩ := Option.map_eq_some_iff.mp hx
      obtain ⟨hti, et⟩ := List.getElem?_eq_some_iff.mp ht
      obtain ⟨c, hci, hA⟩ := hc.at_ i hti
      rw [et] at hA
      have hcm := List.mem_of_getElem? hci
      exact ⟨rfl, fun Q' q => ⟨_, rfl, V.ref t, true, rfl, (hA.same s1).clv (g.tab c hcm) (g.nam c hcm) (g.wide c hcm), fun H4 s4 => q H4 s4⟩⟩
    · intro H1 s1 hD1
      have h1a := seqT s1 ha
      refine ⟨D, (List.range (ts.map V.ref).length).map fun _ => true, rfl, by rw [List.map_map]; exact SqL.of hD1, _, rfl, ?_⟩
      rw [all_true]
      refine if_neg_of rfl ⟨_, rfl, a, _, _, rfl, h1a, ?_, by rw [List.length_map]; omega, cls_kv (hc.same s1), okAdj_cls cs, fun k hk => ?_, fun H2 s2 => ?_⟩
      · intro e
        rw [List.map_eq_nil_iff] at e
        rw [e] at n1
        have : (0 : Nat) = cs.length := n1
        omega
      · obtain ⟨c, _, rfl⟩ := List.mem_map.mp hk
        rw [keyC_depth]
        decide
      rw [ascB_cls g.up]
      refine ⟨_, rfl, if_neg_of rfl ?_⟩
      have s02 := K0.Same.tr s1 s2
      refine ⟨_, rfl, a, ts, cs, rfl, seqT s02 ha, hc.same s02, by omega, fun d H3 s3 hd ed => ?_⟩
      have s03 := K0.Same.tr s02 s3
      refine ⟨_, rfl, a, ts, cs, rfl, seqT s03 ha, hc.same s03, tot, by omega, fun ns t H4 ic s4 ht et => ?_⟩
      have s04 := K0.Same.tr s03 s4
      have ed4 := s4 _ _ ed
      refine ⟨t, _, rfl, .inr (SqT.of et), _, _, rfl, rfl, _, rfl, ?_⟩
      have n8 := g.ncols ic
      rw [List.length_map]
      refine if_pos_of (decide_eq_true (by omega)) ?_
      refine ⟨_, rfl, a, rfl, ⟨_, seqT s04 ha⟩, fun D2 hD2 => lc_pure (f := fun _ => .bl true) (walk_tup (K := K) (a := a) (xs := ts.map V.ref)) (by rw [List.length_map, sizeLine_eq]; omega) hD2 (fun H5 s5 => seqT s5 (seqT s04 ha)) ?_ gPair_mono ?_⟩
      · rintro i x H5 H6 hi s5 ⟨rfl, hx⟩
        rw [List.getElem?_map] at hx
        obtain ⟨t', ht', rfl⟩ := Option.map_eq_some_iff.mp hx
        obtain ⟨hti, et'⟩ := List.getElem?_eq_some_iff.mp ht'
        obtain ⟨c, hci, hA⟩ := hc.at_ i hti
        rw [et'] at hA
        have hcm := List.mem_of_getElem? hci
        obtain ⟨t2, g1, g2⟩ := hA.same (K0.Same.tr s04 s5)
        refine ⟨t', _, rfl, SqT.of g1, rfl, _, _, rfl, _, _, rfl, rfl, rfl, fun Q' q => ?_⟩
        have dg : DGet H6 d (V.str c.1) (some (V.int c.2.length)) := by
          rw [← tabsOf_val cs g.same c hcm]
          exact DGet.k (k := Sum.inr c.1) (s5 _ _ ed4)
        refine ⟨_, rfl, _, rfl, d, V.int c.2.length, rfl, dg, _, rfl, t2, _, rfl, .inr (SqT.of g2), rfl, ?_⟩
        rw [List.length_map, decide_eq_true rfl]
        exact q H6 Same.rfl'
      · intro H5 s5 hD5
        refine ⟨D2, (List.range (ts.map V.ref).length).map fun _ => true, rfl, by rw [List.map_map]; exact SqL.of hD5, ?_⟩
        rw [all_true]
        exact k H5 (K0.Same.tr s04 s5)
end
end K0

/-! ## R4 -/
set_option maxRecDepth 100000
set_option maxHeartbeats 2000000
namespace K0
open PySem L2 NS RZ
theorem strs_all2 {as : List Str} {p : V → Bool} (h : ∀ k ∈ as, p (V.str k) = true) : (as.map V.str).all p = true := by
  rw [List.all_map, List.all_eq_true]
  exact h
theorem inV_strs {k : Str} : ∀ {ns : List Str}, inV (V.str k) (ns.map V.str) = decide (k ∈ ns)
  | [] => rfl
  | a :: ns => by
    have ih := inV_strs (k := k) (ns := ns)
    unfold inV at ih ⊢
    rw [List.map_cons, List.any_cons, ih]
    show (a == k || decide (k ∈ ns)) = decide (k ∈ a :: ns)
    by_cases e : a = k
    · subst e
      simp
    · have e2 : (a == k) = false := beq_eq_false_iff_ne.mpr e
      rw [e2, Bool.false_or]
      refine decide_eq_decide.mpr ⟨fun h => List.mem_cons_of_mem _ h, fun h => ?_⟩
      rcases List.mem_cons.mp h with q | q
      · exact absurd q.symm e
      · exact q
theorem flat_strs (ns : List Str) : (ns.map V.str).all flatV = true := strs_all2 fun _ _ => rfl
abbrev sAreAsk : Stmt := top 27
def spAreAsk (K : PySem.W.Frag) : Sp := fun vs H Q _ => ∃ (a b : Addr) (ts : List Addr) (cs : List CL) (as : List Str), vs = [.ref a, .ref b] ∧ SqT K H a (ts.map V.ref) ∧ Cls H ts cs ∧ (colsIn cs).length < 64 ∧ ts.length ≤ 1000 ∧
  H b = some (.tup (as.map V.str)) ∧ as.Nodup ∧ as.length ≤ 64 ∧ (∀ k ∈ as, nameS k = true) ∧ (∀ k ∈ as, k ∈ colsIn cs) ∧ ∀ H', Same H H' → Q (.bl true) H'
section
variable {P : Program} {w : World} {K : PySem.W.Frag} {mg : Str → Option Value} {base : Heap} {fI fW fN fA fD fO : Addr} {fdA fdD fdO : FuncData}
abbrev nAreAsk : List Str := ["clauses", "value", "columns", "column"]
theorem scAreAsk : FnScope nAreAsk ["clauses", "value"] (defScope sAreAsk) := ⟨rfl, rfl, rfl, by decide +kernel, rfl, by decide +kernel, by decide +kernel⟩
theorem ok_areAsk {f : Addr} {fd : FuncData} (F : Fun K "_are_asked" "_are_asked" sAreAsk f fd) (T : T2 K mg fI fW)
    (eA : Gl K mg "are_names" fA) (GA : FnOk P w K mg base CX0 2 fA fdA ["value"] spAreNam) (bA : Binds K fdA ["value"] [])
    (eD : Gl K mg "are_different" fD) (GD : FnOk P w K mg base CX0 1 fD fdD ["values"] (spDiff K)) (bD : Binds K fdD ["values"] [])
    (eO : Gl K mg "_columns_of" fO) (GO : FnOk P w K mg base CX0 1 fO fdO ["clauses"] (spColsOf K)) (bO : Binds K fdO ["clauses"] []) :
    FnOk P w K mg base CX0 3 f fd ["clauses", "value"] (spAreAsk K) := by
  refine F.ok scAreAsk (fun vs H Q E h => ?_) (fun cdv A outer s H vs Q E hr h => ?_)
  · obtain ⟨a, b, ts, cs, as, rfl, _⟩ := h
    rfl
  · obtain ⟨a, b, ts, cs, as, rfl, ha, hc, few, many, hb, nd, sh, nam, sub, k⟩ := h
    have hr1 : Room 1 _ := hr.mono (by decide)
    refine ⟨_, pss_cons (ps_if (pw_or (pt_not (pt_val (pe_call GA hr (by rfl) eA.g eA.k bA .nil pass0 (pa_cons (pv 1) pa_nil))))
        (pw_or1 (pt_not (pt_val (pe_call GD hr1 (by rfl) eD.g eD.k bD .nil pass0 (pa_cons (pv 1) pa_nil)))))).pt (pss_one (ps_ret pe_bl)) pss_nil)
      (pss_cons (ps_set (i := 2) scAreAsk.nd rfl (Or.inr rfl) (pe_call GO hr1 (by rfl) eO.g eO.k bO .nil pass0 (pa_cons (pv 0) pa_nil)))
      (pss_one (ps_ret (pe_callB (cr_all rfl) (by rfl) T.all (by decide +kernel) (pa_cons (pe_lc (own := [("column", 3)]) (g := gName 3) (tt := tYes) rfl scAreAsk.nd (pi_tup (pv 1))
          (blkOk_by (own := [("column", 3)]) (N := nAreAsk) (sc := defScope sAreAsk) (by decide +kernel)) (fun _ _ _ _ _ => pg_name (i := 3) scAreAsk.nd rfl (Or.inl rfl)) (fun _ _ _ _ _ => pts_nil)
          (fun _ _ _ _ _ => pe_cmpR (r := rIn K false) op_in_seq (pv 3) (pv 2) rfl)) pa_nil))))), ?_⟩
    have tu : Tu H (.ref b) := fun a' xs e h => by
      cases e
      rw [hb] at h
      cases h
      refine ⟨by rw [List.length_map]; omega, fun x hx => ?_⟩
      obtain ⟨z, hz, rfl⟩ := List.mem_map.mp hx
      exact ⟨.str z, Nat.le_trans (nameS_len (nam z hz)) (by decide)⟩
    refine ⟨_, rfl, .ref b, rfl, .tup hb, tu, fun H1 s1 => ⟨_, rfl, ?_⟩⟩
    have e1 : onTup H (fun xs => xs.all nameV) (.ref b) = true := by
      simp only [onTup, hb]
      exact strs_all2 nam
    rw [e1]
    refine if_neg_of rfl ⟨_, rfl, b, as, rfl, .inl (SqT.of (s1 _ _ hb)), by omega, fun H2 s2 => ⟨_, rfl, ?_⟩⟩
    rw [decide_eq_true nd]
    have s02 := K0.Same.tr s1 s2
    refine if_neg_of rfl ⟨_, rfl, a, ts, cs, rfl, seqT s02 ha, hc.same s02, few, many, fun ns t H3 ic s3 ht et => ?_⟩
    have s03 := K0.Same.tr s02 s3
    refine ⟨_, rfl, b, rfl, ⟨_, SqT.of (s03 _ _ hb)⟩, fun D hD => lc_pure (f := fun _ => .bl true) (walk_tup (K := K) (a := b) (xs := as.map V.str)) (by rw [List.length_map, sizeLine_eq]; omega) hD (fun H1 s1 => SqT.of (s1 _ _ (s03 _ _ hb))) ?_ gName_mono ?_⟩
    · rintro i x H4 H5 hi s4 ⟨rfl, hx⟩
      rw [List.getElem?_map] at hx
      obtain ⟨z, hz, rfl⟩ := Option.map_eq_some_iff.mp hx
      have zm := List.mem_of_getElem? hz
      refine ⟨rfl, fun Q' q => ⟨_, rfl, _, rfl, t, _, rfl, .inr (SqT.of (s4 _ _ et)), rfl, flat_strs ns, ?_⟩⟩
      have e : inV (V.str z) (ns.map V.str) = true := by
        rw [inV_strs]
        exact decide_eq_true ((ic.2.2 z).mpr (sub z zm))
      rw [e]
      exact q H5 Same.rfl'
    · intro H4 s4 hD4
      refine ⟨D, (List.range (as.map V.str).length).map fun _ => true, rfl, by rw [List.map_map]; exact SqL.of hD4, ?_⟩
      rw [all_true]
      exact k H4 (K0.Same.tr s03 s4)
end
/-! ### the class Question -/
abbrev sQ (j : Nat) : Stmt := inClass (top 29) j
/-- what can't be reached -/
theorem ps_never {X : Cx} {st : Stmt} : PS X st (fun _ _ _ => False) := ⟨fun _ _ _ _ _ _ h => h.elim⟩
def qF1 (tc : Addr) : List (Str × V) := putF "_clauses" (.ref tc) []
def qF2 (tc ta : Addr) : List (Str × V) := putF "_asked" (.ref ta) (qF1 tc)
def qF3 (tc ta to : Addr) : List (Str × V) := putF "_columns" (.ref to) (qF2 tc ta)
def qFs (tc ta to td : Addr) : List (Str × V) := putF "_tables" (.ref td) (qF3 tc ta to)
theorem putF_le (f : Str) (v : V) : ∀ l : List (Str × V), (putF f v l).length ≤ l.length + 1
  | [] => Nat.le_refl _
  | (g, x) :: r => by
    show (if g = f then (g, v) :: r else (g, x) :: putF f v r).length ≤ _
    have := putF_le f v r
    split <;> simp only [List.length_cons] <;> omega
theorem qF1_le (tc : Addr) : (qF1 tc).length ≤ 1 := putF_le _ _ _
theorem qF2_le (tc ta : Addr) : (qF2 tc ta).length ≤ 2 := Nat.le_trans (putF_le _ _ _) (Nat.succ_le_succ (qF1_le _))
theorem qF3_le (tc ta to : Addr) : (qF3 tc ta to).length ≤ 3 := Nat.le_trans (putF_le _ _ _) (Nat.succ_le_succ (qF2_le _ _))
theorem ne12 : ¬ ("_asked" : Str) = "_clauses" := by decide +kernel
theorem ne13 : ¬ ("_columns" : Str) = "_clauses" := by decide +kernel
theorem ne14 : ¬ ("_tables" : Str) = "_clauses" := by decide +kernel
theorem ne23 : ¬ ("_columns" : Str) = "_asked" := by decide +kernel
theorem ne24 : ¬ ("_tables" : Str) = "_asked" := by decide +kernel
theorem ne34 : ¬ ("_tables" : Str) = "_columns" := by decide +kernel
theorem qFs_clauses (tc ta to td : Addr) : (qFs tc ta to td).lookup ("_clauses" : Str) = some (.ref tc) := by
  unfold qFs qF3 qF2 qF1
  rw [lookup_putF, if_neg (fun e => ne14 e.symm), lookup_putF, if_neg (fun e => ne13 e.symm), lookup_putF, if_neg (fun e => ne12 e.symm), lookup_putF, if_pos rfl]
theorem qFs_asked (tc ta to td : Addr) : (qFs tc ta to td).lookup ("_asked" : Str) = some (.ref ta) := by
  unfold qFs qF3 qF2
  rw [lookup_putF, if_neg (fun e => ne24 e.symm), lookup_putF, if_neg (fun e => ne23 e.symm), lookup_putF, if_pos rfl]
theorem qFs_columns (tc ta to td : Addr) : (qFs tc ta to td).lookup ("_columns" : Str) = some (.ref to) := by
  unfold qFs qF3
  rw [lookup_putF, if_neg (fun e => ne34 e.symm), lookup_putF, if_pos rfl]
theorem qFs_tables (tc ta to td : Addr) : (qFs tc ta to td).lookup ("_tables" : Str) = some (.ref td) := by
  unfold qFs
  rw [lookup_putF, if_pos rfl]
theorem qFs_no {tc ta to td : Addr} {m : Str} (h1 : ¬ m = "_clauses") (h2 : ¬ m = "_asked") (h3 : ¬ m = "_columns") (h4 : ¬ m = "_tables") : (qFs tc ta to td).lookup m = none := by
  unfold qFs qF3 qF2 qF1
  rw [lookup_putF, if_neg h4, lookup_putF, if_neg h3, lookup_putF, if_neg h2, lookup_putF, if_neg h1]
  rfl
theorem sqT_kd {K : PySem.W.Frag} {H H' : Hp} {p a : Addr} {xs : List V} (h1 : ∀ xs, H p ≠ some (.tup xs)) (h2 : ∀ o u, H p ≠ some (.frz o u)) (k : Kd p H H') (h : SqT K H a xs) : SqT K H' a xs := by
  rcases h with (h | ⟨o, h⟩) | h
  · exact .inl (.inl (k _ _ (fun e => h1 _ (by rw [← e]; exact h)) h))
  · exact .inl (.inr ⟨o, k _ _ (fun e => h2 _ _ (by rw [← e]; exact h)) h⟩)
  · exact .inr h
theorem ClA.kdI {H H' : Hp} {t p : Addr} {c : CL} (h : ClA H t c) (hp : ∀ xs, H p ≠ some (.tup xs)) (k : Kd p H H') : ClA H' t c := by
  obtain ⟨t2, h1, h2⟩ := h
  exact ⟨t2, k _ _ (fun e => hp _ (by rw [← e]; exact h1)) h1, k _ _ (fun e => hp _ (by rw [← e]; exact h2)) h2⟩
theorem Cls.kdI {H H' : Hp} {p : Addr} (hp : ∀ xs, H p ≠ some (.tup xs)) (k : Kd p H H') : ∀ {ts : List Addr} {cs : List CL}, Cls H ts cs → Cls H' ts cs
  | _, _, .nil => .nil
  | _, _, .cons h r => .cons (h.kdI hp k) (r.kdI hp k)
/-- at p stands the question q -/
structure QuA (K : PySem.W.Frag) (C : Addr) (H : Hp) (p : Addr) (q : PQ) (tc ta to td : Addr) (ts : List Addr) (ns : List Str) : Prop where
  ob : ∃ dx, H p = some (.ins C dx (qFs tc ta to td))
  tcs : SqT K H tc (ts.map V.ref)
  cls : Cls H ts q.cls
  tas : H ta = some (.tup (q.asked.map V.str))
  tos : H to = some (.tup (ns.map V.str))
  col : IsCols (colsIn q.cls) ns
  tds : H td = some (.dK (tabsOf q.cls))
def QuO (K : PySem.W.Frag) (C : Addr) (H : Hp) (p : Addr) (q : PQ) : Prop := ∃ tc ta to td ts ns, QuA K C H p q tc ta to td ts ns
theorem QuA.same {K : PySem.W.Frag} {C : Addr} {H H' : Hp} {p : Addr} {q : PQ} {tc ta to td : Addr} {ts : List Addr} {ns : List Str} (h : QuA K C H p q tc ta to td ts ns) (s : Same H H') : QuA K C H' p q tc ta to td ts ns :=
  ⟨h.ob.imp fun _ e => s _ _ e, seqT s h.tcs, h.cls.same s, s _ _ h.tas, s _ _ h.tos, h.col, s _ _ h.tds⟩
theorem QuO.same {K : PySem.W.Frag} {C : Addr} {H H' : Hp} {p : Addr} {q : PQ} (h : QuO K C H p q) (s : Same H H') : QuO K C H' p q := by
  obtain ⟨tc, ta, to, td, ts, ns, h⟩ := h
  exact ⟨tc, ta, to, td, ts, ns, h.same s⟩
/-- a question's parts -/
structure WfQ (q : PQ) : Prop where
  c : WfC q.cls
  nd : q.asked.Nodup
  ask : ∀ k ∈ q.asked, k ∈ colsIn q.cls
theorem WfQ.nam {q : PQ} (g : WfQ q) : ∀ k ∈ q.asked, nameS k = true := fun k hk => by
  obtain ⟨c, hc, h⟩ := colsIn_mem.mp (g.ask k hk)
  exact g.c.nam c hc k h
theorem WfQ.few {q : PQ} (g : WfQ q) : q.asked.length ≤ 8 := by
  obtain ⟨pool, p1, p2⟩ := g.c.cols
  refine Nat.le_trans (nodup_le _ pool g.nd fun k hk => ?_) p1
  obtain ⟨c, hc, h⟩ := colsIn_mem.mp (g.ask k hk)
  exact p2 c hc k h
structure TQu (K : PySem.W.Frag) (C : Addr) : Prop where
  cl : L2.Cls K C
  n1 : NoAttr K C "_clauses"
  n2 : NoAttr K C "_asked"
  n3 : NoAttr K C "_columns"
  n4 : NoAttr K C "_tables"
def spInit (K : PySem.W.Frag) (C : Addr) : Sp := fun vs H Q _ => ∃ (p dx a b : Addr) (ts : List Addr) (q : PQ), vs = [.ref p, .ref a, .ref b] ∧ H p = some (.ins C dx []) ∧ SqT K H a (ts.map V.ref) ∧ Cls H ts q.cls ∧ H b = some (.tup (q.asked.map V.str)) ∧ WfQ q ∧ (colsIn q.cls).length < 64 ∧
  ∀ H' tc ta to td ns, tc = a → QuA K C H' p q tc ta to td ts ns → (∀ c o, c ≠ p → H c = some o → H' c = some o) → Q .non H'
section
variable {P : Program} {w : World} {K : PySem.W.Frag} {mg : Str → Option Value} {base : Heap} {C fC fA fT fO : Addr} {fdC fdA fdT fdO : FuncData}
abbrev nInit : List Str := ["self", "clauses", "asked"]
theorem scInit : FnScope nInit ["self", "clauses", "asked"] (defScope (sQ 0)) := ⟨rfl, rfl, rfl, by decide +kernel, rfl, by decide +kernel, by decide +kernel⟩
theorem ok_init {f : Addr} {fd : FuncData} (F : Fun K "__init__" "Question.__init__" (sQ 0) f fd) (T : TQu K C)
    (eC : Gl K mg "_are_clauses" fC) (GC : FnOk P w K mg base CX0 4 fC fdC ["value"] (spAreCl K)) (bC : Binds K fdC ["value"] [])
    (eA : Gl K mg "_are_asked" fA) (GA : FnOk P w K mg base CX0 3 fA fdA ["clauses", "value"] (spAreAsk K)) (bA : Binds K fdA ["clauses", "value"] [])
    (eT : Gl K mg "_tables_of" fT) (GT : FnOk P w K mg base CX0 1 fT fdT ["clauses"] (spTabsOf K)) (bT : Binds K fdT ["clauses"] [])
    (eO : Gl K mg "_columns_of" fO) (GO : FnOk P w K mg base CX0 1 fO fdO ["clauses"] (spColsOf K)) (bO : Binds K fdO ["clauses"] []) :
    FnOk P w K mg base CX0 5 f fd ["self", "clauses", "asked"] (spInit K C) := by
  refine F.ok scInit (fun vs H Q E h => ?_) (fun cdv A outer s H vs Q E hr h => ?_)
  · obtain ⟨p, dx, a, b, ts, q, rfl, _⟩ := h
    rfl
  · obtain ⟨p, dx, a, b, ts, q, rfl, hp, ha, hc, hb, g, few, k⟩ := h
    have hr1 : Room 1 _ := hr.mono (by decide)
    refine ⟨_, pss_cons (ps_if (pw_or (pt_not (pt_val (pe_call GC hr (by rfl) eC.g eC.k bC .nil pass0 (pa_cons (pv 1) pa_nil))))
        (pw_or1 (pt_not (pt_val (pe_call GA (hr.mono (by decide)) (by rfl) eA.g eA.k bA .nil pass0 (pa_cons (pv 1) (pa_cons (pv 2) pa_nil))))))).pt (pss_one ps_never) pss_nil)
      (pss_cons (ps_fld (pv 0) (pv 1) rfl)
      (pss_cons (ps_fld (pv 0) (pv 2) rfl)
      (pss_cons (ps_fld (pv 0) (pe_call GO hr1 (by rfl) eO.g eO.k bO .nil pass0 (pa_cons (pv 1) pa_nil)) rfl)
      (pss_one (ps_fld (pv 0) (pe_call GT hr1 (by rfl) eT.g eT.k bT .nil pass0 (pa_cons (pv 1) pa_nil)) rfl))))), ?_⟩
    have n1 : ts.length = q.cls.length := hc.len
    have c8 := g.c.few
    have a8 := g.few
    refine ⟨_, rfl, a, ts, q.cls, rfl, ha, hc, g.c, few, fun H1 s1 => ⟨_, rfl, if_neg_of rfl ?_⟩⟩
    refine ⟨_, rfl, _, rfl, a, b, ts, q.cls, q.asked, rfl, seqT s1 ha, hc.same s1, few, by omega, s1 _ _ hb, g.nd, by omega, g.nam, g.ask, fun H2 s2 => ⟨_, rfl, if_neg_of rfl ?_⟩⟩
    have s02 := K0.Same.tr s1 s2
    have hp2 := s02 _ _ hp
    have notup : ∀ xs, H p ≠ some (.tup xs) := fun xs e => by rw [hp] at e; cases e
    have nofrz : ∀ o u, H p ≠ some (.frz o u) := fun o u e => by rw [hp] at e; cases e
    have kT : ∀ {H' : Hp}, Kd p H H' → SqT K H' a (ts.map V.ref) := fun kd => sqT_kd notup nofrz kd ha
    have pb : b ≠ p := fun e => notup _ (by rw [← e]; exact hb)
    refine ⟨_, rfl, _, rfl, p, C, dx, _, rfl, hp2, T.cl, T.n1, by show 0 < 1000; decide, ?_⟩
    refine ⟨_, rfl, _, rfl, p, C, dx, _, rfl, upd_same, T.cl, T.n2, Nat.lt_of_le_of_lt (qF1_le a) (by decide), ?_⟩
    have kd3 : Kd p H (upd (upd H2 p (.ins C dx (qF1 a))) p (.ins C dx (qF2 a b))) := fun c o n e => by
      rw [upd_ne n, upd_ne n]
      exact s02 _ _ e
    refine ⟨_, rfl, a, ts, q.cls, rfl, kT kd3, hc.kdI notup kd3, few, by omega, fun ns t H4 ic s4 ht et => ?_⟩
    have kd4 : Kd p H H4 := kd3.tr (Kd.of s4)
    refine ⟨_, rfl, p, C, dx, _, rfl, s4 _ _ upd_same, T.cl, T.n3, Nat.lt_of_le_of_lt (qF2_le a b) (by decide), ?_⟩
    have pt : t ≠ p := fun e => by
      rw [e, upd_same] at ht
      cases ht
    have kd5 : Kd p H (upd H4 p (.ins C dx (qF3 a b t))) := fun c o n e => by
      rw [upd_ne n]
      exact kd4 _ _ n e
    have et5 : upd H4 p (.ins C dx (qF3 a b t)) t = some (.tup (ns.map V.str)) := by rw [upd_ne pt]; exact et
    refine ⟨_, rfl, a, ts, q.cls, rfl, kT kd5, hc.kdI notup kd5, by omega, fun d H6 s6 hd ed => ?_⟩
    have kd6 : Kd p H H6 := kd5.tr (Kd.of s6)
    refine ⟨_, rfl, p, C, dx, _, rfl, s6 _ _ upd_same, T.cl, T.n4, Nat.lt_of_le_of_lt (qF3_le a b t) (by decide), ?_⟩
    have pd : d ≠ p := fun e => by
      rw [e, upd_same] at hd
      cases hd
    have kd7 : Kd p H (upd H6 p (.ins C dx (qFs a b t d))) := fun c o n e => by
      rw [upd_ne n]
      exact kd6 _ _ n e
    refine k _ a b t d ns rfl ⟨⟨dx, upd_same⟩, kT kd7, hc.kdI notup kd7, kd7 _ _ pb hb, ?_, ic, ?_⟩ fun c o n e => kd7 _ _ n e
    · show upd H6 p (.ins C dx (qFs a b t d)) t = _
      rw [upd_ne pt]
      exact s6 _ _ et5
    · show upd H6 p (.ins C dx (qFs a b t d)) d = _
      rw [upd_ne pd]
      exact ed
end
end K0

/-! ## X3 -/
set_option maxRecDepth 100000
set_option maxHeartbeats 2000000
namespace K0
open PySem L2 NS RZ
/-! ### sorted(set), by what stands in it -/
def rSortTxP (w : World) : List V → Hp → VK → Prop := fun vs H Q => ∃ (a : Addr) (S : Str → Bool) (n : Nat), vs = [.ref a] ∧ H a = some (SetTO w a S n) ∧ (∀ L : List Str, L.Nodup → (∀ k ∈ L, S k = true) → L.length < 64) ∧
  ∀ (ns : List Str) (p : Addr), PyProof.Rows.sortedS ns = true → ns.Nodup → (∀ k, k ∈ ns ↔ S k = true) → H p = none → Q (.ref p) (upd H p (.lst (ns.map V.str)))
theorem cr_sortTxP {X : Cx} (hc : X.calm = true) : CallR X (.builtin "sorted") (rSortTxP X.w) := by
  intro pins s σ H vs us Q I r h
  obtain ⟨a, S, n, rfl, ha, h64, q⟩ := h
  refine cr_sortTx hc pins s σ H _ us Q I r ⟨a, S, n, rfl, ha, ?_, fun ns p h1 h2 h3 _ h5 => q ns p h1 h2 h3 h5⟩
  obtain ⟨o, es, ep, t, ho, hex, hd, g, nd, hm, hb, hf, hsz, _⟩ := setT_get I ha
  have z := h64 (es.toList.map keyT) nd fun k hk => (hm k).mpr hk
  rw [List.length_map, Array.length_toList] at z
  omega
/-! ### _columns_of, of clauses with few columns -/
structure Smol (cs : List CL) : Prop where
  few : cs.length ≤ 16
  wide : ∀ c ∈ cs, c.2.length ≤ 8
  pool : ∃ pool : List Str, pool.length < 64 ∧ ∀ k ∈ colsIn cs, k ∈ pool
theorem Smol.total {cs : List CL} (g : Smol cs) : (colsIn cs).length ≤ 128 := by
  have z := colsIn_few g.wide
  have := g.few
  omega
theorem Smol.nodup {cs : List CL} (g : Smol cs) {L : List Str} (nd : L.Nodup) (h : ∀ k ∈ L, k ∈ colsIn cs) : L.length < 64 := by
  obtain ⟨pool, p1, p2⟩ := g.pool
  exact Nat.lt_of_le_of_lt (nodup_le L pool nd fun k hk => p2 k (h k hk)) p1
def spColsOf2 (K : PySem.W.Frag) : Sp := fun vs H Q _ => ∃ (a : Addr) (ts : List Addr) (cs : List CL), vs = [.ref a] ∧ SqT K H a (ts.map V.ref) ∧ Cls H ts cs ∧ Smol cs ∧ ∀ ns t H', IsCols (colsIn cs) ns → Same H H' → H t = none → H' t = some (.tup (ns.map V.str)) → Q (.ref t) H'
section
variable {P : Program} {w : World} {K : PySem.W.Frag} {mg : Str → Option Value} {base : Heap}
theorem ok_colsOf2 {f : Addr} {fd : FuncData} (F : Fun K "_columns_of" "_columns_of" sColsOf f fd) (T : TQ K mg) : FnOk P w K mg base CX0 1 f fd ["clauses"] (spColsOf2 K) := by
  refine F.ok scColsOf (fun vs H Q E h => ?_) (fun cdv A outer s H vs Q E hr h => ?_)
  · obtain ⟨a, ts, cs, rfl, _⟩ := h
    rfl
  · obtain ⟨a, ts, cs, rfl, ha, hc, g, k⟩ := h
    have tot := g.total
    have few := g.few
    refine ⟨_, pss_one (ps_ret (pe_callTy (T := "tuple") call_tuple_of (by rfl) T.tup (by decide +kernel) (pa_cons (pe_callB (cr_sortTxP rfl) (by rfl) T.srt (by decide +kernel) (pa_cons (pe_callTy (cr_setTx rfl) (by rfl) T.set (by decide +kernel) (pa_cons
      (pe_lc2 (own := [("_", 1), ("columns", 2), ("column", 3)]) (vs1 := [3]) (wi1 := iTup K (tVar 2)) (g := gTup K 2 (gCons (gName 1) (gCons (gName 2) gNil))) (tt := tYes) (g1 := gName 3) (tt1 := tYes) (te := tVar 3) rfl scColsOf.nd (pi_tup (pv 0))
        (blkOk_by (N := nColsOf) (sc := defScope sColsOf) (by decide +kernel)) (by decide)
        (fun _ _ _ _ _ => pg_tup rfl (pgs_cons (pg_name (i := 1) scColsOf.nd rfl (Or.inl rfl)) (pgs_cons (pg_name (i := 2) scColsOf.nd rfl (Or.inl rfl)) pgs_nil))) (fun _ _ _ _ _ => pts_nil)
        (fun _ _ _ _ _ => pi_tup (pv 2)) (fun _ _ _ _ _ => pg_name (i := 3) scColsOf.nd rfl (Or.inl rfl)) (fun _ _ _ _ _ => pts_nil) (fun _ _ _ _ _ => pv 3)) pa_nil)) pa_nil)) pa_nil))), ?_⟩
    refine ⟨_, rfl, a, rfl, ⟨_, ha⟩, fun D hD => walk_it walk_tup (fun i H' => Same H H' ∧ H' D = some (.lst ((colsIn (cs.take i)).map V.str))) ⟨K0.Same.new _ hD, upd_same⟩ (fun i H' _ s => seqT s.1 ha) ?_ ?_⟩
    · rintro i x H1' H1 hi ⟨s1, e1⟩ ⟨rfl, hx⟩
      rw [List.getElem?_map] at hx
      obtain ⟨t, ht, rfl⟩ := Option.map_eq_some_iff.mp hx
      obtain ⟨hti, et⟩ := List.getElem?_eq_some_iff.mp ht
      obtain ⟨c, hci, hA⟩ := hc.at_ i hti
      rw [et] at hA
      obtain ⟨t2, g1, g2⟩ := hA
      have le := colsIn_le cs (i + 1)
      rw [colsIn_take _ _ _ hci, List.length_append] at le
      refine ⟨t, _, rfl, SqT.of (s1 _ _ g1), rfl, _, _, rfl, _, _, rfl, rfl, rfl, ?_⟩
      dsimp only [tYes]
      rw [if_pos rfl]
      refine ⟨_, rfl, t2, rfl, ⟨_, SqT.of (s1 _ _ g2)⟩, walk_it walk_tup (fun j H' => Same H H' ∧ H' D = some (.lst ((colsIn (cs.take i) ++ c.2.take j).map V.str))) ⟨s1, by rw [List.take_zero, List.append_nil]; exact e1⟩ (fun j H' _ s => SqT.of (s.1 _ _ g2)) ?_ ?_⟩
      · rintro j y H2' H2 hj ⟨s2, e2⟩ ⟨rfl, hy⟩
        rw [List.getElem?_map] at hy
        obtain ⟨z, hz, rfl⟩ := Option.map_eq_some_iff.mp hy
        have zl := (List.getElem?_eq_some_iff.mp hz).1
        refine ⟨rfl, ?_⟩
        rw [if_pos rfl]
        refine ⟨_, rfl, _, e2, by rw [List.length_map, List.length_append, List.length_take, sizeLine_eq]; omega, fun b o e => ?_, ?_⟩
        · rw [upd_ne (ne_of_none e hD)]
          exact s2 _ _ e
        · rw [upd_same, List.take_add_one, hz, ← List.append_assoc, List.map_append (l₁ := colsIn (cs.take i) ++ c.2.take j)]
          rfl
      · rintro H2 ⟨s2, e2⟩
        rw [List.length_map, List.take_length] at e2
        exact ⟨s2, by rw [colsIn_take _ _ _ hci]; exact e2⟩
    · rintro H1 ⟨s1, e1⟩
      rw [List.length_map, hc.len, List.take_length] at e1
      refine ⟨D, _, rfl, .inr (SqL.of e1), by omega, fun p n hn hp => ⟨p, _, n, rfl, upd_same, fun L nd hL => g.nodup nd fun k hk => of_decide_eq_true (hL k hk), fun ns m g1 g2 g3 hm => ?_⟩⟩
      have sp := K0.Same.new (SetTO w p (fun j => decide (j ∈ colsIn cs)) n) hp
      have sm := K0.Same.new (.lst (ns.map V.str)) hm
      refine ⟨m, _, rfl, .inl ⟨SqL.of upd_same, fun t ht => ?_⟩⟩
      have st := K0.Same.new (.tup (ns.map V.str)) ht
      have s2 := K0.Same.tr s1 (K0.Same.tr sp sm)
      exact k ns t _ ⟨g1, g2, fun j => by rw [g3, decide_eq_true_eq]⟩ (K0.Same.tr s2 st) (none_back s2 ht) upd_same
end
/-! ### _are_clauses, of clauses of names -/
structure PreC (cs : List CL) : Prop extends Smol cs where
  tab : ∀ c ∈ cs, nameS c.1 = true
  nam : ∀ c ∈ cs, ∀ k ∈ c.2, nameS k = true
  one : ∀ c ∈ cs, 1 ≤ c.2.length
  up : cs.Pairwise fun c c' => ltC c c' = true
def spAreCl2 (K : PySem.W.Frag) : Sp := fun vs H Q _ => ∃ (a : Addr) (ts : List Addr) (cs : List CL), vs = [.ref a] ∧ SqT K H a (ts.map V.ref) ∧ Cls H ts cs ∧ PreC cs ∧ ∀ H' (b : Bool), Same H H' → (b = true ↔ WfC cs) → Q (.bl b) H'
theorem tabsOf_some (cs : List CL) : ∀ c ∈ cs, ∃ n : Nat, valV (tabsOf cs) (Sum.inr c.1 : Key) = some (V.int n) ∧ ∃ c' ∈ cs, c'.1 = c.1 ∧ c'.2.length = n := by
  induction cs using snoc_ind with
  | h0 => intro c h; cases h
  | hs l a ih =>
    intro c hc
    rw [tabsOf_snoc, valV_put]
    by_cases e : (Sum.inr c.1 : Key) = Sum.inr a.1
    · rw [if_pos e]
      refine ⟨_, rfl, a, List.mem_append_right _ List.mem_cons_self, ?_, rfl⟩
      injection e with e
      exact e.symm
    · rw [if_neg e]
      rcases List.mem_append.mp hc with h | h
      · obtain ⟨n, h1, c', h2, h3⟩ := ih c h
        exact ⟨n, h1, c', List.mem_append_left _ h2, h3⟩
      · rw [List.mem_singleton.mp h] at e
        exact absurd rfl e
/-- the widths agree with the dict's, clause by clause -/
def widOk (cs : List CL) (i : Nat) : Bool := decide (valV (tabsOf cs) (Sum.inr (cs.getD i ("", [])).1 : Key) = some (V.int (cs.getD i ("", [])).2.length))
theorem getD_mem {cs : List CL} {i : Nat} (h : i < cs.length) : cs.getD i ("", []) ∈ cs := by
  have e : cs.getD i ("", []) = cs[i] := by simp [List.getD, h]
  rw [e]
  exact List.getElem_mem h
theorem widOk_all (cs : List CL) : ((List.range cs.length).map (widOk cs)).all id = true ↔ ∀ c ∈ cs, ∀ c' ∈ cs, c.1 = c'.1 → c.2.length = c'.2.length := by
  rw [List.all_map, List.all_eq_true]
  constructor
  · intro h c hc c' hc' e
    have at_ : ∀ x ∈ cs, valV (tabsOf cs) (Sum.inr x.1 : Key) = some (V.int x.2.length) := fun x hx => by
      obtain ⟨i, hi, rfl⟩ := List.getElem_of_mem hx
      have z := h i (List.mem_range.mpr hi)
      have z2 := of_decide_eq_true (show widOk cs i = true from z)
      have e2 : cs.getD i ("", []) = cs[i] := by simp [List.getD, hi]
      rw [e2] at z2
      exact z2
    have h1 := at_ c hc
    have h2 := at_ c' hc'
    rw [e] at h1
    rw [h1] at h2
    injection h2 with h2
    injection h2 with h2
    omega
  · intro h i hi
    have hm := getD_mem (List.mem_range.mp hi)
    exact decide_eq_true (tabsOf_val cs h _ hm)
theorem PreC.wf {cs : List CL} (g : PreC cs) {ns : List Str} (ic : IsCols (colsIn cs) ns) (h1 : 1 ≤ cs.length) (h2 : cs.length ≤ 8) (h3 : ns.length ≤ 8) (h4 : ∀ c ∈ cs, ∀ c' ∈ cs, c.1 = c'.1 → c.2.length = c'.2.length) : WfC cs where
  some_ e := by rw [e] at h1; cases h1
  few := h2
  tab := g.tab
  nam := g.nam
  wide c hc := ⟨g.one c hc, g.wide c hc⟩
  up := g.up
  same := h4
  cols := ⟨ns, h3, fun c hc k hk => (ic.2.2 k).mpr (colsIn_mem.mpr ⟨c, hc, hk⟩)⟩
section
variable {P : Program} {w : World} {K : PySem.W.Frag} {mg : Str → Option Value} {base : Heap} {fI fW fN fC fA fT fO : Addr} {fdC fdA fdT fdO : FuncData}
theorem ok_areCl2 {f : Addr} {fd : FuncData} (F : Fun K "_are_clauses" "_are_clauses" sAreCl f fd) (T : TC K mg fI fW fN)
    (eC : Gl K mg "is_clause" fC) (GC : FnOk P w K mg base CX0 3 fC fdC ["value"] (spIsCl K)) (bC : Binds K fdC ["value"] [])
    (eA : Gl K mg "is_ascending" fA) (GA : FnOk P w K mg base CX0 1 fA fdA ["values"] (spIsAsc K)) (bA : Binds K fdA ["values"] [])
    (eT : Gl K mg "_tables_of" fT) (GT : FnOk P w K mg base CX0 1 fT fdT ["clauses"] (spTabsOf K)) (bT : Binds K fdT ["clauses"] [])
    (eO : Gl K mg "_columns_of" fO) (GO : FnOk P w K mg base CX0 1 fO fdO ["clauses"] (spColsOf2 K)) (bO : Binds K fdO ["clauses"] []) :
    FnOk P w K mg base CX0 4 f fd ["value"] (spAreCl2 K) := by
  refine F.ok scAreCl (fun vs H Q E h => ?_) (fun cdv A outer s H vs Q E hr h => ?_)
  · obtain ⟨a, ts, cs, rfl, _⟩ := h
    rfl
  · obtain ⟨a, ts, cs, rfl, ha, hc, g, k⟩ := h
    have hr1 : Room 1 _ := hr.mono (by decide)
    obtain ⟨tm, hm⟩ := T.mc
    obtain ⟨tk, hk⟩ := T.mcol
    refine ⟨_, pss_cons (ps_if (pw_or (pt_not (pt_val (pe_callB call_isi (by rfl) T.isi (by decide +kernel) (pa_cons (pv 0) (pa_cons (pe_bltn (v := .ty "tuple") (by rfl) T.tup (by decide +kernel) rfl) pa_nil)))))
        (pw_or1 (pt_not (pt_chain op_le op_le pe_int (pe_callB call_len_seq (by rfl) T.len PySem.boot_len (pa_cons (pv 0) pa_nil)) (pe_glob (v := .int 8) (by rfl) hm ⟨tm, rfl⟩))))).pt (pss_one (ps_ret pe_bl)) pss_nil)
      (pss_cons (ps_if (pw_or (pt_not (pt_val (pe_callB (cr_all rfl) (by rfl) T.all (by decide +kernel) (pa_cons (pe_lc (own := [("clause", 2)]) (g := gName 2) (tt := tYes) rfl scAreCl.nd (pi_tup (pv 0))
          (blkOk_by (own := [("clause", 2)]) (N := nAreCl) (sc := defScope sAreCl) (by decide +kernel)) (fun _ _ _ _ _ => pg_name (i := 2) scAreCl.nd rfl (Or.inl rfl)) (fun _ _ _ _ _ => pts_nil)
          (fun _ _ _ _ _ => pe_call GC hr (by rfl) eC.g eC.k bC .nil pass0 (pa_cons (pv 2) pa_nil))) pa_nil))))
        (pw_or1 (pt_not (pt_val (pe_call GA hr1 (by rfl) eA.g eA.k bA .nil pass0 (pa_cons (pv 0) pa_nil)))))).pt (pss_one (ps_ret pe_bl)) pss_nil)
      (pss_cons (ps_set (i := 1) scAreCl.nd rfl (Or.inr rfl) (pe_call GT hr1 (by rfl) eT.g eT.k bT .nil pass0 (pa_cons (pv 0) pa_nil)))
      (pss_one (ps_ret (pe_and (pe_cmpR op_le (pe_callB call_len_seq (by rfl) T.len PySem.boot_len (pa_cons (pe_call GO hr1 (by rfl) eO.g eO.k bO .nil pass0 (pa_cons (pv 0) pa_nil)) pa_nil)) (pe_glob (v := .int 8) (by rfl) hk ⟨tk, rfl⟩) (nomark _))
        (pe_one (pe_callB (cr_all rfl) (by rfl) T.all (by decide +kernel) (pa_cons (pe_lc (own := [("table", 3), ("columns", 4)]) (g := gTup K 2 (gCons (gName 3) (gCons (gName 4) gNil))) (tt := tYes) rfl scAreCl.nd (pi_tup (pv 0))
          (blkOk_by (own := [("table", 3), ("columns", 4)]) (N := nAreCl) (sc := defScope sAreCl) (by decide +kernel))
          (fun _ _ _ _ _ => pg_tup rfl (pgs_cons (pg_name (i := 3) scAreCl.nd rfl (Or.inl rfl)) (pgs_cons (pg_name (i := 4) scAreCl.nd rfl (Or.inl rfl)) pgs_nil))) (fun _ _ _ _ _ => pts_nil)
          (fun _ _ _ _ _ => pe_cmpR op_eq (pe_dget (lt1 hr.units) (pv 1) (pv 3) (fun _ _ => rfl)) (pe_callB (id := "len") (r := rLenS K) call_len_seq (by rfl) T.len PySem.boot_len (pa_cons (pv 4) pa_nil)) (nomark _))) pa_nil)))))))), ?_⟩
    have n1 : ts.length = cs.length := hc.len
    have few := g.few
    refine ⟨_, rfl, _, _, _, _, true, rfl, .ty _, tyT ha, kit_ty (by decide +kernel), true, rfl, if_neg_of rfl ⟨_, rfl, a, _, rfl, .inr ha, _, _, rfl, rfl, _, rfl, ?_⟩⟩
    rw [List.length_map]
    refine if_both (fun c1 => ?_) (fun c1 => ?_)
    case refine_2 =>
      refine ⟨_, rfl, if_pos_of rfl (k H false K0.Same.rfl' ⟨fun z => absurd z Bool.false_ne_true, fun z => ?_⟩)⟩
      have := List.length_pos_iff.mpr z.some_
      have := of_decide_eq_false c1
      omega
    have c1 := of_decide_eq_true c1
    refine ⟨_, _, rfl, rfl, _, rfl, ?_⟩
    by_cases c2 : (ts.length : Int) ≤ 8
    case neg =>
      rw [decide_eq_false c2]
      refine if_pos_of rfl (k H false K0.Same.rfl' ⟨fun z => absurd z Bool.false_ne_true, fun z => ?_⟩)
      have := z.few
      omega
    rw [decide_eq_true c2]
    refine if_neg_of rfl ?_
    refine ⟨_, rfl, a, rfl, ⟨_, ha⟩, fun D hD => lc_pure (f := fun _ => .bl true) (walk_tup (K := K) (a := a) (xs := ts.map V.ref)) (by rw [List.length_map, sizeLine_eq]; omega) hD (fun H1 s1 => seqT s1 ha) ?_ gName_mono ?_⟩
    · rintro i x H1 H2 hi s1 ⟨rfl, hx⟩
      rw [List.getElem?_map] at hx
      obtain ⟨t, ht, rfl⟩ := Option.map_eq_some_iff.mp hx
      obtain ⟨hti, et⟩ := List.getElem?_eq_some_iff.mp ht
      obtain ⟨c, hci, hA⟩ := hc.at_ i hti
      rw [et] at hA
      have hcm := List.mem_of_getElem? hci
      exact ⟨rfl, fun Q' q => ⟨_, rfl, V.ref t, true, rfl, (hA.same s1).clv (g.tab c hcm) (g.nam c hcm) ⟨g.one c hcm, g.wide c hcm⟩, fun H4 s4 => q H4 s4⟩⟩
    · intro H1 s1 hD1
      have h1a := seqT s1 ha
      refine ⟨D, (List.range (ts.map V.ref).length).map fun _ => true, rfl, by rw [List.map_map]; exact SqL.of hD1, _, rfl, ?_⟩
      rw [all_true]
      refine if_neg_of rfl ⟨_, rfl, a, _, _, rfl, h1a, ?_, by rw [List.length_map]; omega, cls_kv (hc.same s1), okAdj_cls cs, fun k hk => ?_, fun H2 s2 => ?_⟩
      · intro e
        rw [List.map_eq_nil_iff] at e
        rw [e] at c1
        simp at c1
      · obtain ⟨c, _, rfl⟩ := List.mem_map.mp hk
        rw [keyC_depth]
        decide
      rw [ascB_cls g.up]
      refine ⟨_, rfl, if_neg_of rfl ?_⟩
      have s02 := K0.Same.tr s1 s2
      refine ⟨_, rfl, a, ts, cs, rfl, seqT s02 ha, hc.same s02, by omega, fun d H3 s3 hd ed => ?_⟩
      have s03 := K0.Same.tr s02 s3
      refine ⟨_, rfl, a, ts, cs, rfl, seqT s03 ha, hc.same s03, g.toSmol, fun ns t H4 ic s4 ht et => ?_⟩
      have s04 := K0.Same.tr s03 s4
      have ed4 := s4 _ _ ed
      refine ⟨t, _, rfl, .inr (SqT.of et), _, _, rfl, rfl, _, rfl, ?_⟩
      rw [List.length_map]
      refine if_both (fun c3 => ?_) (fun c3 => ?_)
      case refine_2 =>
        refine k H4 false s04 ⟨fun z => absurd z Bool.false_ne_true, fun z => ?_⟩
        have := z.ncols ic
        have := of_decide_eq_false c3
        omega
      have c3 := of_decide_eq_true c3
      refine ⟨_, rfl, a, rfl, ⟨_, seqT s04 ha⟩, fun D2 hD2 => lc_pure (f := fun i => .bl (widOk cs i)) (walk_tup (K := K) (a := a) (xs := ts.map V.ref)) (by rw [List.length_map, sizeLine_eq]; omega) hD2 (fun H5 s5 => seqT s5 (seqT s04 ha)) ?_ gPair_mono ?_⟩
      · rintro i x H5 H6 hi s5 ⟨rfl, hx⟩
        rw [List.getElem?_map] at hx
        obtain ⟨t', ht', rfl⟩ := Option.map_eq_some_iff.mp hx
        obtain ⟨hti, et'⟩ := List.getElem?_eq_some_iff.mp ht'
        obtain ⟨c, hci, hA⟩ := hc.at_ i hti
        rw [et'] at hA
        have hcm := List.mem_of_getElem? hci
        have ec : cs.getD i ("", []) = c := by simp [List.getD, hci]
        obtain ⟨t2, g1, g2⟩ := hA.same (K0.Same.tr s04 s5)
        refine ⟨t', _, rfl, SqT.of g1, rfl, _, _, rfl, _, _, rfl, rfl, rfl, fun Q' q => ?_⟩
        obtain ⟨n, hn, _⟩ := tabsOf_some cs c hcm
        have dg : DGet H6 d (V.str c.1) (some (V.int n)) := by
          rw [← hn]
          exact DGet.k (k := Sum.inr c.1) (s5 _ _ ed4)
        refine ⟨_, rfl, _, rfl, d, V.int n, rfl, dg, _, rfl, t2, _, rfl, .inr (SqT.of g2), rfl, ?_⟩
        have q' := q H6 Same.rfl'
        unfold widOk at q'
        rw [ec, hn] at q'
        rw [List.length_map]
        have e : decide (V.int (n : Int) = V.int (c.2.length : Int)) = decide (some (V.int (n : Int)) = some (V.int (c.2.length : Int))) := decide_eq_decide.mpr ⟨fun z => by rw [z], fun z => by injection z⟩
        rw [e]
        exact q'
      · intro H5 s5 hD5
        refine ⟨D2, (List.range (ts.map V.ref).length).map (widOk cs), rfl, by rw [List.map_map]; exact SqL.of hD5, ?_⟩
        refine k H5 _ (K0.Same.tr s04 s5) ?_
        rw [List.length_map, n1, widOk_all]
        exact ⟨fun z => g.wf ic (by omega) (by omega) (by omega) z, fun z => z.same⟩
end
end K0

/-! ## X4 -/
set_option maxRecDepth 100000
set_option maxHeartbeats 2000000
namespace K0
open PySem L2 NS RZ
def spAreAsk2 (K : PySem.W.Frag) : Sp := fun vs H Q _ => ∃ (a b : Addr) (ts : List Addr) (cs : List CL) (as : List Str), vs = [.ref a, .ref b] ∧ SqT K H a (ts.map V.ref) ∧ Cls H ts cs ∧ Smol cs ∧
  H b = some (.tup (as.map V.str)) ∧ as.Nodup ∧ as.length ≤ 1000 ∧ (∀ k ∈ as, nameS k = true) ∧ ∀ H' (b : Bool), Same H H' → (b = true ↔ ∀ k ∈ as, k ∈ colsIn cs) → Q (.bl b) H'
theorem all_in (as : List Str) (p : Str → Bool) : ((List.range as.length).map fun i => p (as.getD i "")).all id = as.all p := by
  rw [List.all_map]
  have e : as.all p = (List.range as.length).all (fun i => p (as.getD i "")) := by
    rw [Bool.eq_iff_iff, List.all_eq_true, List.all_eq_true]
    constructor
    · intro h i hi
      have hi' := List.mem_range.mp hi
      have e : as.getD i "" = as[i] := by simp [List.getD, hi']
      rw [e]
      exact h _ (List.getElem_mem hi')
    · intro h x hx
      obtain ⟨i, hi, rfl⟩ := List.getElem_of_mem hx
      have z := h i (List.mem_range.mpr hi)
      have e : as.getD i "" = as[i] := by simp [List.getD, hi]
      rwa [e] at z
  rw [e]
  rfl
section
variable {P : Program} {w : World} {K : PySem.W.Frag} {mg : Str → Option Value} {base : Heap} {fI fW fN fA fD fO : Addr} {fdA fdD fdO : FuncData}
theorem ok_areAsk2 {f : Addr} {fd : FuncData} (F : Fun K "_are_asked" "_are_asked" sAreAsk f fd) (T : T2 K mg fI fW)
    (eA : Gl K mg "are_names" fA) (GA : FnOk P w K mg base CX0 2 fA fdA ["value"] spAreNam) (bA : Binds K fdA ["value"] [])
    (eD : Gl K mg "are_different" fD) (GD : FnOk P w K mg base CX0 1 fD fdD ["values"] (spDiff K)) (bD : Binds K fdD ["values"] [])
    (eO : Gl K mg "_columns_of" fO) (GO : FnOk P w K mg base CX0 1 fO fdO ["clauses"] (spColsOf2 K)) (bO : Binds K fdO ["clauses"] []) :
    FnOk P w K mg base CX0 3 f fd ["clauses", "value"] (spAreAsk2 K) := by
  refine F.ok scAreAsk (fun vs H Q E h => ?_) (fun cdv A outer s H vs Q E hr h => ?_)
  · obtain ⟨a, b, ts, cs, as, rfl, _⟩ := h
    rfl
  · obtain ⟨a, b, ts, cs, as, rfl, ha, hc, g, hb, nd, sh, nam, k⟩ := h
    have hr1 : Room 1 _ := hr.mono (by decide)
    refine ⟨_, pss_cons (ps_if (pw_or (pt_not (pt_val (pe_call GA hr (by rfl) eA.g eA.k bA .nil pass0 (pa_cons (pv 1) pa_nil))))
        (pw_or1 (pt_not (pt_val (pe_call GD hr1 (by rfl) eD.g eD.k bD .nil pass0 (pa_cons (pv 1) pa_nil)))))).pt (pss_one (ps_ret pe_bl)) pss_nil)
      (pss_cons (ps_set (i := 2) scAreAsk.nd rfl (Or.inr rfl) (pe_call GO hr1 (by rfl) eO.g eO.k bO .nil pass0 (pa_cons (pv 0) pa_nil)))
      (pss_one (ps_ret (pe_callB (cr_all rfl) (by rfl) T.all (by decide +kernel) (pa_cons (pe_lc (own := [("column", 3)]) (g := gName 3) (tt := tYes) rfl scAreAsk.nd (pi_tup (pv 1))
          (blkOk_by (own := [("column", 3)]) (N := nAreAsk) (sc := defScope sAreAsk) (by decide +kernel)) (fun _ _ _ _ _ => pg_name (i := 3) scAreAsk.nd rfl (Or.inl rfl)) (fun _ _ _ _ _ => pts_nil)
          (fun _ _ _ _ _ => pe_cmpR (r := rIn K false) op_in_seq (pv 3) (pv 2) rfl)) pa_nil))))), ?_⟩
    have tu : Tu H (.ref b) := fun a' xs e h => by
      cases e
      rw [hb] at h
      cases h
      refine ⟨by rw [List.length_map]; omega, fun x hx => ?_⟩
      obtain ⟨z, hz, rfl⟩ := List.mem_map.mp hx
      exact ⟨.str z, Nat.le_trans (nameS_len (nam z hz)) (by decide)⟩
    refine ⟨_, rfl, .ref b, rfl, .tup hb, tu, fun H1 s1 => ⟨_, rfl, ?_⟩⟩
    have e1 : onTup H (fun xs => xs.all nameV) (.ref b) = true := by
      simp only [onTup, hb]
      exact strs_all2 nam
    rw [e1]
    refine if_neg_of rfl ⟨_, rfl, b, as, rfl, .inl (SqT.of (s1 _ _ hb)), by omega, fun H2 s2 => ⟨_, rfl, ?_⟩⟩
    rw [decide_eq_true nd]
    have s02 := K0.Same.tr s1 s2
    refine if_neg_of rfl ⟨_, rfl, a, ts, cs, rfl, seqT s02 ha, hc.same s02, g, fun ns t H3 ic s3 ht et => ?_⟩
    have s03 := K0.Same.tr s02 s3
    refine ⟨_, rfl, b, rfl, ⟨_, SqT.of (s03 _ _ hb)⟩, fun D hD => lc_pure (f := fun i => .bl (decide (as.getD i "" ∈ ns))) (walk_tup (K := K) (a := b) (xs := as.map V.str)) (by rw [List.length_map, sizeLine_eq]; omega) hD (fun H1 s1 => SqT.of (s1 _ _ (s03 _ _ hb))) ?_ gName_mono ?_⟩
    · rintro i x H4 H5 hi s4 ⟨rfl, hx⟩
      rw [List.getElem?_map] at hx
      obtain ⟨z, hz, rfl⟩ := Option.map_eq_some_iff.mp hx
      have ez : as.getD i "" = z := by simp [List.getD, hz]
      refine ⟨rfl, fun Q' q => ⟨_, rfl, _, rfl, t, _, rfl, .inr (SqT.of (s4 _ _ et)), rfl, flat_strs ns, ?_⟩⟩
      have q' := q H5 Same.rfl'
      rw [ez, ← inV_strs] at q'
      exact q'
    · intro H4 s4 hD4
      refine ⟨D, (List.range (as.map V.str).length).map fun i => decide (as.getD i "" ∈ ns), rfl, by rw [List.map_map]; exact SqL.of hD4, ?_⟩
      refine k H4 _ (K0.Same.tr s03 s4) ?_
      rw [List.length_map, all_in as fun k => decide (k ∈ ns), List.all_eq_true]
      exact forall_congr' fun k => forall_congr' fun _ => by rw [decide_eq_true_eq, ic.2.2]
end
/-! ### Question(clauses, asked), which may be refused -/
structure PreQ (q : PQ) : Prop where
  c : PreC q.cls
  nd : q.asked.Nodup
  nam : ∀ k ∈ q.asked, nameS k = true
  len : q.asked.length ≤ 1000
def spInit2 (K : PySem.W.Frag) (C CQ : Addr) : Sp := fun vs H Q E => ∃ (p dx a b : Addr) (ts : List Addr) (q : PQ), vs = [.ref p, .ref a, .ref b] ∧ H p = some (.ins C dx []) ∧ SqT K H a (ts.map V.ref) ∧ Cls H ts q.cls ∧ H b = some (.tup (q.asked.map V.str)) ∧ PreQ q ∧
  (WfQ q → ∀ H' tc ta to td ns, tc = a → QuA K C H' p q tc ta to td ts ns → (∀ c o, c ≠ p → H c = some o → H' c = some o) → Q .non H') ∧ (¬ WfQ q → ∀ H', Same H H' → E (.ref CQ) none H')
section
variable {P : Program} {w : World} {K : PySem.W.Frag} {mg : Str → Option Value} {base : Heap} {C CQ fC fA fT fO : Addr} {fdC fdA fdT fdO : FuncData}
theorem ok_init2 {f : Addr} {fd : FuncData} (F : Fun K "__init__" "Question.__init__" (sQ 0) f fd) (T : TQu K C) (XQ : XV K mg "InvalidQuestion" CQ)
    (eC : Gl K mg "_are_clauses" fC) (GC : FnOk P w K mg base CX0 4 fC fdC ["value"] (spAreCl2 K)) (bC : Binds K fdC ["value"] [])
    (eA : Gl K mg "_are_asked" fA) (GA : FnOk P w K mg base CX0 3 fA fdA ["clauses", "value"] (spAreAsk2 K)) (bA : Binds K fdA ["clauses", "value"] [])
    (eT : Gl K mg "_tables_of" fT) (GT : FnOk P w K mg base CX0 1 fT fdT ["clauses"] (spTabsOf K)) (bT : Binds K fdT ["clauses"] [])
    (eO : Gl K mg "_columns_of" fO) (GO : FnOk P w K mg base CX0 1 fO fdO ["clauses"] (spColsOf2 K)) (bO : Binds K fdO ["clauses"] []) :
    FnOk P w K mg base (L2.CX P w) 5 f fd ["self", "clauses", "asked"] (spInit2 K C CQ) := by
  refine F.okX scInit (fun vs H Q E h => ?_) (fun cdv A outer s H vs Q E hr h => ?_)
  · obtain ⟨p, dx, a, b, ts, q, rfl, _⟩ := h
    rfl
  · obtain ⟨p, dx, a, b, ts, q, rfl, hp, ha, hc, hb, g, k, kx⟩ := h
    have hr1 : Room 1 _ := hr.mono (by decide)
    refine ⟨_, pss_cons (ps_if (pw_or (pt_not (pt_val (pe_call (E := E0) GC hr (by rfl) eC.g eC.k bC .nil pass0 (pa_cons (pv 1) pa_nil))))
        (pw_or1 (pt_not (pt_val (pe_call (E := E0) GA (hr.mono (by decide)) (by rfl) eA.g eA.k bA .nil pass0 (pa_cons (pv 1) (pa_cons (pv 2) pa_nil))))))).pt
        (pss_one (ps_raise rfl (takes_of rfl rfl rfl rfl) (pmk_own PySem.F.excBase_ValueError XQ.xC XQ.gC XQ.kC (raises_own XQ.sB XQ.tC) rfl))) pss_nil)
      (pss_cons (ps_fld (pv 0) (pv 1) rfl)
      (pss_cons (ps_fld (pv 0) (pv 2) rfl)
      (pss_cons (ps_fld (pv 0) (pe_call (E := E0) GO hr1 (by rfl) eO.g eO.k bO .nil pass0 (pa_cons (pv 1) pa_nil)) rfl)
      (pss_one (ps_fld (pv 0) (pe_call (E := E0) GT hr1 (by rfl) eT.g eT.k bT .nil pass0 (pa_cons (pv 1) pa_nil)) rfl))))), ?_⟩
    have n1 : ts.length = q.cls.length := hc.len
    have c8 := g.c.few
    refine ⟨_, rfl, a, ts, q.cls, rfl, ha, hc, g.c, fun H1 b1 s1 hb1 => ⟨_, rfl, ?_⟩⟩
    cases b1 with
    | false =>
      exact if_pos_of rfl (kx (fun z => by cases hb1.mpr z.c) H1 s1)
    | true =>
    have wc := hb1.mp rfl
    refine if_neg_of rfl ?_
    refine ⟨_, rfl, _, rfl, a, b, ts, q.cls, q.asked, rfl, seqT s1 ha, hc.same s1, g.c.toSmol, s1 _ _ hb, g.nd, g.len, g.nam, fun H2 b2 s2 hb2 => ⟨_, rfl, ?_⟩⟩
    have s02 := K0.Same.tr s1 s2
    cases b2 with
    | false =>
      exact if_pos_of rfl (kx (fun z => by cases hb2.mpr z.ask) H2 s02)
    | true =>
    have k := k ⟨wc, g.nd, hb2.mp rfl⟩
    refine if_neg_of rfl ?_
    have hp2 := s02 _ _ hp
    have notup : ∀ xs, H p ≠ some (.tup xs) := fun xs e => by rw [hp] at e; cases e
    have nofrz : ∀ o u, H p ≠ some (.frz o u) := fun o u e => by rw [hp] at e; cases e
    have kT : ∀ {H' : Hp}, Kd p H H' → SqT K H' a (ts.map V.ref) := fun kd => sqT_kd notup nofrz kd ha
    have pb : b ≠ p := fun e => notup _ (by rw [← e]; exact hb)
    refine ⟨_, rfl, _, rfl, p, C, dx, _, rfl, hp2, T.cl, T.n1, by show 0 < 1000; decide, ?_⟩
    refine ⟨_, rfl, _, rfl, p, C, dx, _, rfl, upd_same, T.cl, T.n2, Nat.lt_of_le_of_lt (qF1_le a) (by decide), ?_⟩
    have kd3 : Kd p H (upd (upd H2 p (.ins C dx (qF1 a))) p (.ins C dx (qF2 a b))) := fun c o n e => by
      rw [upd_ne n, upd_ne n]
      exact s02 _ _ e
    refine ⟨_, rfl, a, ts, q.cls, rfl, kT kd3, hc.kdI notup kd3, g.c.toSmol, fun ns t H4 ic s4 ht et => ?_⟩
    have kd4 : Kd p H H4 := kd3.tr (Kd.of s4)
    refine ⟨_, rfl, p, C, dx, _, rfl, s4 _ _ upd_same, T.cl, T.n3, Nat.lt_of_le_of_lt (qF2_le a b) (by decide), ?_⟩
    have pt : t ≠ p := fun e => by
      rw [e, upd_same] at ht
      cases ht
    have kd5 : Kd p H (upd H4 p (.ins C dx (qF3 a b t))) := fun c o n e => by
      rw [upd_ne n]
      exact kd4 _ _ n e
    have et5 : upd H4 p (.ins C dx (qF3 a b t)) t = some (.tup (ns.map V.str)) := by rw [upd_ne pt]; exact et
    refine ⟨_, rfl, a, ts, q.cls, rfl, kT kd5, hc.kdI notup kd5, by omega, fun d H6 s6 hd ed => ?_⟩
    have kd6 : Kd p H H6 := kd5.tr (Kd.of s6)
    refine ⟨_, rfl, p, C, dx, _, rfl, s6 _ _ upd_same, T.cl, T.n4, Nat.lt_of_le_of_lt (qF3_le a b t) (by decide), ?_⟩
    have pd : d ≠ p := fun e => by
      rw [e, upd_same] at hd
      cases hd
    have kd7 : Kd p H (upd H6 p (.ins C dx (qFs a b t d))) := fun c o n e => by
      rw [upd_ne n]
      exact kd6 _ _ n e
    refine k _ a b t d ns rfl ⟨⟨dx, upd_same⟩, kT kd7, hc.kdI notup kd7, kd7 _ _ pb hb, ?_, ic, ?_⟩ fun c o n e => kd7 _ _ n e
    · show upd H6 p (.ins C dx (qFs a b t d)) t = _
      rw [upd_ne pt]
      exact s6 _ _ et5
    · show upd H6 p (.ins C dx (qFs a b t d)) d = _
      rw [upd_ne pd]
      exact ed
end
end K0

/-! ## M2 -/
set_option maxRecDepth 100000
set_option maxHeartbeats 8000000
namespace K0
open PySem L2 NS RZ
/-! ### the law's question -/
theorem WfQ.pre {q : PQ} (g : WfQ q) : PreQ q := by
  obtain ⟨pool, p1, p2⟩ := g.c.cols
  refine ⟨⟨⟨Nat.le_trans g.c.few (by decide), fun c hc => (g.c.wide c hc).2, pool, by omega, fun k hk => ?_⟩, g.c.tab, g.c.nam, fun c hc => (g.c.wide c hc).1, g.c.up⟩, g.nd, g.nam, Nat.le_trans g.few (by decide)⟩
  obtain ⟨c, hc, h⟩ := colsIn_mem.mp hk
  exact p2 c hc k h
abbrev sMade : Stmt := top 36
def spMade2 (K : PySem.W.Frag) (C : Addr) : Sp := fun vs H Q _ => ∃ (d : Addr) (q : PQ), vs = [.ref d] ∧ PlA H d q ∧ WfQ q ∧ ∀ p H', Same H H' → QuO K C H' p q → Q (.ref p) H'
theorem passF {X : Cx} : Passes (L2.CX X.prog X.w) X (fun _ _ _ => False) := fun _ _ _ _ _ _ _ ⟨_, _, _, _, _, _, _, _, _, _, _, _, z⟩ => z.elim
section
variable {P : Program} {w : World} {K : PySem.W.Frag} {mg : Str → Option Value} {base : Heap} {C CQ fI : Addr} {fdI : FuncData}
theorem scMade : FnScope ["_law_plain"] ["_law_plain"] (defScope sMade) := ⟨rfl, rfl, rfl, by decide +kernel, rfl, by decide +kernel, by decide +kernel⟩
theorem ok_made2 {f : Addr} {fd : FuncData} (F : Fun K "_law_made" "_law_made" sMade f fd) (tup : mg "tuple" = none) (gQ : mg "Question" = some (.ref C)) (M : Mk K C fI)
    (GI : FnOk P w K mg base (L2.CX P w) 5 fI fdI ["self", "clauses", "asked"] (spInit2 K C CQ)) (bI : Binds K fdI ["self", "clauses", "asked"] []) : FnOk P w K mg base CX0 7 f fd ["_law_plain"] (spMade2 K C) := by
  refine F.ok scMade (fun vs H Q E h => ?_) (fun cdv A outer s H vs Q E hr h => ?_)
  · obtain ⟨d, q, rfl, _⟩ := h
    rfl
  · obtain ⟨d, q, rfl, ⟨lc, la, ts, h1, h2, h3, h4⟩, g, k⟩ := h
    refine ⟨_, pss_one (ps_ret (pe_make (E := fun _ _ _ => False) M GI hr (by rfl) gQ bI .nil passF (pa_cons (pe_callTy (T := "tuple") call_tuple_of (by rfl) tup (by decide +kernel) (pa_cons (pe_dget (lt1 hr.units) (pv 0) pe_str (fun _ _ => rfl)) pa_nil))
      (pa_cons (pe_callTy (T := "tuple") call_tuple_of (by rfl) tup (by decide +kernel) (pa_cons (pe_dget (lt1 hr.units) (pv 0) pe_str (fun _ _ => rfl)) pa_nil)) pa_nil)))), ?_⟩
    refine ⟨_, rfl, d, V.ref lc, rfl, DGet.k (k := Sum.inr "clauses") h1, lc, _, rfl, .inl ⟨SqL.of h2, fun tc htc => ?_⟩⟩
    have s1 := K0.Same.new (.tup (ts.map V.ref)) htc
    refine ⟨_, rfl, d, V.ref la, rfl, DGet.k (k := Sum.inr "asked") (s1 _ _ h1), la, _, rfl, .inl ⟨SqL.of (s1 _ _ h4), fun ta hta => ?_⟩⟩
    have s2 := K0.Same.new (.tup (q.asked.map V.str)) hta
    have s02 := K0.Same.tr s1 s2
    have etc := s2 _ _ (upd_same (H := H) (a := tc) (o := .tup (ts.map V.ref)))
    intro x dx nx ndx nex
    have s3 : Same (upd (upd H tc (.tup (ts.map V.ref))) ta (.tup (q.asked.map V.str))) (upd (upd (upd (upd H tc (.tup (ts.map V.ref))) ta (.tup (q.asked.map V.str))) dx (.own x)) x (.ins C dx [])) := fun c o e => by
      rw [upd_ne (ne_of_none e nx), upd_ne (ne_of_none e ndx)]
      exact e
    have s03 := K0.Same.tr s02 s3
    refine ⟨x, dx, tc, ta, ts, q, rfl, upd_same, SqT.of (s3 _ _ etc), h3.same s03, s3 _ _ upd_same, g.pre, fun _ H' tc' ta' to' td' ns' e U' kd => ⟨rfl, ?_⟩, fun no => absurd g no⟩
    have sx : Same (upd (upd H tc (.tup (ts.map V.ref))) ta (.tup (q.asked.map V.str))) H' := fun c o e => by
      have n1 := ne_of_none e nx
      refine kd c o n1 ?_
      rw [upd_ne n1, upd_ne (ne_of_none e ndx)]
      exact e
    exact k x H' (K0.Same.tr s02 sx) ⟨tc', ta', to', td', ts, ns', U'⟩
end
end K0

/-! ## P4 -/
set_option maxRecDepth 100000
set_option maxHeartbeats 2000000
namespace K0
open PySem PySem.Spec PyProof.Rows L2
/-! ### x in t, t.index(x): items of any depth -/
section
variable {X : Cx}
def rInDT (K : PySem.W.Frag) (neg : Bool) : R2 := fun x y H Q => ∃ d ds, Dp K H x d ∧ Dp K H y (.tuple ds) ∧ SeqAt.shaped d = true ∧ SeqAt.shaped (.tuple ds) = true ∧ Q (.bl (if neg then !(ds.any fun z => PyData.eqv z d) else ds.any fun z => PyData.eqv z d)) H
theorem op_inDT (hu : X.A.units + 65 < cLine) : OpR X (compareOp .In) (rInDT X.K false) := by
  intro pins s σ H x y v u Q I rx ry h
  obtain ⟨d, ds, hd, he, sd, se, q⟩ := h
  obtain ⟨as, r1⟩ := Dp.reads I d x v hd rx
  obtain ⟨bs, r2⟩ := Dp.reads I (.tuple ds) y u he ry
  exact SeqAt.in_tuple_reads r2 r1 (SeqAt.canLay_of_shaped se) (SeqAt.canLay_of_shaped sd) (room_in_shaped sd hu) ⟨.bl _, H, I, rfl, q⟩
theorem op_notInDT (hu : X.A.units + 65 < cLine) : OpR X (compareOp .NotIn) (rInDT X.K true) := by
  intro pins s σ H x y v u Q I rx ry h
  obtain ⟨d, ds, hd, he, sd, se, q⟩ := h
  obtain ⟨as, r1⟩ := Dp.reads I d x v hd rx
  obtain ⟨bs, r2⟩ := Dp.reads I (.tuple ds) y u he ry
  exact SeqAt.notIn_tuple_reads r2 r1 (SeqAt.canLay_of_shaped se) (SeqAt.canLay_of_shaped sd) (room_in_shaped sd hu) ⟨.bl _, H, I, rfl, q⟩
def rIndexDT (K : PySem.W.Frag) : V → List V → Hp → VK → Prop := fun x xs H Q => ∃ (a : Addr) (y : V) (d : PyData) (ds : List PyData) (j : Nat) (z : PyData), x = V.ref a ∧ xs = [y] ∧ Dp K H (V.ref a) (.tuple ds) ∧ Dp K H y d ∧
  SeqAt.shaped (.tuple ds) = true ∧ SeqAt.shaped d = true ∧ ds[j]? = some z ∧ PyData.eqv z d = true ∧ (∀ (m : Nat) (z' : PyData), m < j → ds[m]? = some z' → PyData.eqv z' d = false) ∧ Q (.int (j : Nat)) H
theorem mt_tindexD (hu : X.A.units + 65 < cLine) : MtR X "tuple.index" (rIndexDT X.K) := by
  intro pins s σ H x xs v us Q I rx rxs h
  obtain ⟨a, y, d, ds, j, z, rfl, rfl, hl, hy, sl, sd, hz, hzj, hno, q⟩ := h
  cases rx
  cases rxs with
  | cons ry rt =>
    rename_i uy ut
    cases rt
    obtain ⟨bs, r1⟩ := Dp.reads I d y uy hy ry
    have hxs : PyData.canLayAll0 ds = true := SeqAt.canLay_of_shaped sl
    have hroom : X.A.units + 1 + min (PyData.depthAll ds) d.depth < cLine := room_in_shaped sd hu
    cases hl with
    | tup hs ha =>
      obtain ⟨its, rv, ⟨⟨cls, dd, data, sls⟩, ho, hc, n, hdn⟩, hlen⟩ := I.tuple hs
      simp only at hc hdn
      subst hc hdn
      obtain ⟨as, h4⟩ := Dp.readsAll I ds _ its ha rv
      have hn : its.length = ds.length := SeqAt.ReadsAll.length ds its as h4
      have hmap : its.map (SeqAt.readOf s.heap) = ds := SeqAt.readsAll_map ds its as hxs h4
      have hvl := rv.length
      have hsl := sizeLine_eq
      obtain ⟨hjd, _⟩ := List.getElem?_eq_some_iff.mp hz
      have hjl : j < its.length := by omega
      have hj : j < its.toArray.size := by simpa using hjl
      have at_ : ∀ (m : Nat) (hm : m < its.toArray.size) (z' : PyData), ds[m]? = some z' → SeqAt.readOf s.heap its.toArray[m] = z' := by
        intro m hm z' hz'
        have hml : m < its.length := by simpa using hm
        rw [← hmap, List.getElem?_map, List.getElem?_eq_getElem hml] at hz'
        have e1 : SeqAt.readOf s.heap its[m] = z' := Option.some.inj (show some (SeqAt.readOf s.heap its[m]) = some z' from hz')
        simpa using e1
      refine call_meets PySem.F.slot_tuple_index ⟨_, ho, rfl⟩ PySem.F.entry_tuple_index (PySem.F.args_tuple_index_2 _ _)
        (TI.tuple_indexAt a its.toArray n dd sls uy (fun u => PyData.eqv (SeqAt.readOf s.heap u) d) j hj ?_ ?_) ⟨ho, SeqAt.items_eqAt (vs := its.toArray) (show ReadsAll s.heap its.toArray.toList ds as from h4) r1 hxs (SeqAt.canLay_of_shaped sd) hroom, ?_⟩
      · show PyData.eqv (SeqAt.readOf s.heap its.toArray[j]) d = true
        rw [at_ j hj z hz]
        exact hzj
      · intro m hm hmj
        have hmd : m < ds.length := by omega
        have hz' : ds[m]? = some ds[m] := List.getElem?_eq_getElem hmd
        show PyData.eqv (SeqAt.readOf s.heap its.toArray[m]) d = false
        rw [at_ m hm _ hz']
        exact hno m _ hmj hz'
      · exact ⟨.int (j : Nat), H, I.tok _, ⟨_, rfl⟩, q⟩
end
/-! ### clauses as data -/
def dC (c : CL) : PyData := .tuple [.str c.1, .tuple (c.2.map PyData.str)]
theorem eqvAll_strs : ∀ (l m : List Str), PyData.eqvAll (l.map PyData.str) (m.map PyData.str) = decide (l = m)
  | [], [] => rfl
  | [], _ :: _ => rfl
  | _ :: _, [] => rfl
  | a :: l, b :: m => by
    rw [List.map_cons, List.map_cons, PyData.eqvAll, eqvAll_strs l m]
    show (a == b && _) = _
    by_cases e : a = b
    · subst e
      simp
    · have : (a == b) = false := beq_eq_false_iff_ne.mpr e
      rw [this, Bool.false_and]
      exact (decide_eq_false fun h => e (by injection h)).symm
theorem dC_eqv (c c' : CL) : PyData.eqv (dC c) (dC c') = decide (c = c') := by
  unfold dC
  rw [PyData.eqv, PyData.eqvAll, PyData.eqvAll, PyData.eqvAll, PyData.eqv, PyData.eqv, eqvAll_strs, Bool.and_true]
  by_cases e : c.1 = c'.1
  · rw [e, beq_self_eq_true, Bool.true_and]
    refine decide_eq_decide.mpr ⟨fun h => Prod.ext e h, fun h => by rw [h]⟩
  · have : (c.1 == c'.1) = false := beq_eq_false_iff_ne.mpr e
    rw [this, Bool.false_and]
    exact (decide_eq_false fun h => e (by rw [h])).symm
theorem depth_strs : ∀ l : List Str, PyData.depthAll (l.map PyData.str) = 0
  | [] => rfl
  | a :: l => by
    rw [List.map_cons, PyData.depthAll, depth_strs l]
    rfl
theorem dC_depth (c : CL) : (dC c).depth = 2 := by
  unfold dC
  simp [PyData.depth, PyData.depthAll, depth_strs]
theorem depth_dCs : ∀ cs : List CL, PyData.depthAll (cs.map dC) ≤ 2
  | [] => Nat.zero_le _
  | a :: l => by
    rw [List.map_cons, PyData.depthAll, dC_depth]
    exact Nat.max_le.mpr ⟨Nat.le_refl _, depth_dCs l⟩
theorem dpAll_strs {K : PySem.W.Frag} {H : Hp} : ∀ l : List Str, DpAll K H (l.map V.str) (l.map PyData.str)
  | [] => .nil
  | a :: l => .cons (.str a) (dpAll_strs l)
theorem ClA.dp {K : PySem.W.Frag} {H : Hp} {t : Addr} {c : CL} (h : ClA H t c) : Dp K H (.ref t) (dC c) := by
  obtain ⟨t2, h1, h2⟩ := h
  exact .tup (SqT.of h1) (.cons (.str _) (.cons (.tup (SqT.of h2) (dpAll_strs _)) .nil))
theorem Cls.dp {K : PySem.W.Frag} {H : Hp} : ∀ {ts : List Addr} {cs : List CL}, Cls H ts cs → DpAll K H (ts.map V.ref) (cs.map dC)
  | _, _, .nil => .nil
  | _, _, .cons h r => .cons h.dp r.dp
end K0
namespace K0
open PySem PySem.Spec PyProof.Rows L2
/-! ### tuples of which it is known that they have no dict: tuple(l), t.m(..) -/
section
variable {X : Cx}
/-- tuple(l), l a list -/
def rTupF (K : PySem.W.Frag) : List V → Hp → VK → Prop := fun xs H Q => ∃ p ys, xs = [.ref p] ∧ SqL K H p ys ∧ ∀ l o, H l = none → o.dict = none → Q (.ref l) (upd H l (.frz o (.tup ys)))
theorem call_tupF : CallR X (.type "tuple") (rTupF X.K) := by
  intro pins s σ H xs us Q I r h
  obtain ⟨p, ys, rfl, hq, q⟩ := h
  obtain ⟨u, rfl, rx⟩ := vals1 r
  cases rx
  obtain ⟨its, r', pl, hz⟩ := I.list hq
  have hlen := r'.length
  refine call_tuple_list pl.isList (fun h' kp => ?_) (by simp only [List.size_toArray] <;> omega)
  have I1 : Inv X pins σ H { s with heap := h' } := I.kept (t' := s.toks) kp
  have I2 : Inv X pins σ (upd H h'.objs.size (.frz { cls := .type "tuple", data := .seq its.toArray } (.tup ys))) { s with heap := h'.push { cls := .type "tuple", data := .seq its.toArray } } :=
    I1.laid (t' := s.toks) (fun b o e => Heap.get?_push_of_some _ e) (Nat.le_refl _) (show ObjOk X.prog X.w _ _ _ (.frz _ (.tup ys)) from ⟨Heap.get?_push_size _ rfl, hz, its, r', IsTup.new _ _⟩)
  exact ⟨.ref h'.objs.size, _, I2, rfl, q _ _ (I1.hok.fresh (Nat.le_refl _)) rfl⟩
def TupZ (H : Hp) (a : Addr) : Prop := ∃ o xs, H a = some (.frz o (.tup xs)) ∧ o.dict = none
def tBMZ (r : V → List V → Hp → VK → Prop) (to : TE) (t : L2.TA) : TE := fun σ H Q => to σ H fun x H1 => (∃ a, x = .ref a ∧ TupZ H1 a) ∧ t σ H1 fun xs H2 => r x xs H2 Q
variable {o e : Expr} {es : List Expr} {to : TE} {t : L2.TA} {name : Str} {apos cpos : Pos} {id : String} {r : V → List V → Hp → VK → Prop}
theorem pe_bmZ (pa : PlainAttrs "tuple") (slot : Slot "tuple" name id) (hty : typeOf (.builtin id) = pure (.type "method_descriptor")) (hm : MtR X id r) (ho : PE X o to) (ha : PA X (e :: es) t)
    (hbase : attributeBase o name X.env (eval o X.env) = eval o X.env := by rfl)
    (hfew : ((backTo cpos (starEach (e :: es) X.env)).all (fun x => !x.1) && (backToKw cpos (keywordEach [] X.env)).all (fun x => x.1.isSome)
      && decide ((e :: es).length + ([] : List Keyword).length + (if ([] : List Keyword).isEmpty then 0 else 1) < 30)) = true := by rfl)
    (hline : (apos.endLine == cpos.line) = true := by rfl) (hs : starEach (e :: es) X.env = (false, eval e X.env) :: starEach es X.env := by rfl) (hplain : (backTo cpos (starEach es X.env)).any (·.1) = false := by rfl) :
    PE X (.Call (.Attribute o name apos) (e :: es) [] cpos) (tBMZ r to t) := by
  refine ⟨fun pins s σ H Q I h => ?_⟩
  refine wpAny_Call_method_late hbase hfew hline rfl (thn (ho.run pins s σ H _ I h) fun v s1 ⟨x, H1, I1, r1, ⟨a, ea, ob, xs, hz, hd⟩, q1⟩ => ?_)
  subst ea
  cases r1
  obtain ⟨e0, _, its, _, o2, e2, c2, _⟩ := (show ObjOk X.prog X.w H1 s1.heap a (.frz ob (.tup xs)) from I1.hok a _ hz)
  have h1 : s1.TypeIs (.ref a) "tuple" := ⟨o2, e2, c2⟩
  have h2 : ∀ b, Value.ref a = .ref b → ∃ ob, s1.heap.get? b = some ob ∧ ob.dict = none := fun b q => by
    cases q
    exact ⟨ob, e0, hd⟩
  refine ⟨"tuple", id, pa, slot, hty, h1, h2, ?_⟩
  have hA := ha.run cpos pins s1 σ H1 _ I1 q1
  rw [hs] at hA ⊢
  refine Calls.callWith_builtin (by show (false || (backTo cpos (starEach es X.env)).any (·.1)) = false; rw [hplain] <;> rfl) (Calls.evalArgs_plain ?_)
  exact thn hA fun us s2 ⟨vs, H2, I2, r2, q2⟩ => hm pins s2 σ H2 (.ref a) vs (.ref a) us Q I2 rfl r2 q2
end
end K0

/-! ## R5k -/
set_option maxRecDepth 100000
set_option maxHeartbeats 2000000
namespace K0
open PySem L2 NS RZ
/-! ### names as data -/
theorem nameS_ok {z : Str} (h : nameS z = true) : PyData.strOk z = true := by
  unfold nameS at h
  rw [Bool.and_eq_true] at h
  unfold PyData.strOk
  rw [← Array.all_toList, List.all_eq_true]
  intro c hc
  have q := List.all_eq_true.mp h.2 c hc
  unfold lowC at q
  rw [Bool.and_eq_true] at q
  have := of_decide_eq_true q.2
  exact decide_eq_true (by omega)
theorem layS_strs : ∀ {l : List Str}, (∀ k ∈ l, PyData.strOk k = true) → PyData.canLayAll0 (l.map PyData.str) = true
  | [], _ => rfl
  | a :: l, h => by
    rw [List.map_cons, PyData.canLayAll0, layS_strs fun k hk => h k (List.mem_cons_of_mem _ hk)]
    show (PyData.strOk a && true) = true
    rw [h a List.mem_cons_self]
    rfl
theorem dC_lay {c : CL} (h1 : PyData.strOk c.1 = true) (h2 : ∀ k ∈ c.2, PyData.strOk k = true) : (dC c).canLay0 = true := by
  unfold dC
  simp only [PyData.canLay0, PyData.canLayAll0, h1, layS_strs h2, Bool.and_true]
theorem dCs_lay : ∀ {cs : List CL}, (∀ c ∈ cs, (dC c).canLay0 = true) → PyData.canLayAll0 (cs.map dC) = true
  | [], _ => rfl
  | a :: l, h => by
    rw [List.map_cons, PyData.canLayAll0, dCs_lay fun k hk => h k (List.mem_cons_of_mem _ hk), h a List.mem_cons_self]
    rfl
theorem dC_shaped {c : CL} (h1 : PyData.strOk c.1 = true) (h2 : ∀ k ∈ c.2, PyData.strOk k = true) : SeqAt.shaped (dC c) = true := by
  unfold SeqAt.shaped
  rw [dC_lay h1 h2, dC_depth]
  rfl
theorem dCs_shaped {cs : List CL} (h : ∀ c ∈ cs, (dC c).canLay0 = true) : SeqAt.shaped (.tuple (cs.map dC)) = true := by
  unfold SeqAt.shaped
  have e : (PyData.tuple (cs.map dC)).canLay0 = true := dCs_lay h
  have d : (PyData.tuple (cs.map dC)).depth ≤ 64 := by
    show PyData.depthAll (cs.map dC) + 1 ≤ 64
    have := depth_dCs cs
    omega
  rw [e, decide_eq_true d]
  rfl
theorem dStrs_shaped {l : List Str} (h : ∀ k ∈ l, PyData.strOk k = true) : SeqAt.shaped (.tuple (l.map PyData.str)) = true := by
  unfold SeqAt.shaped
  have e : (PyData.tuple (l.map PyData.str)).canLay0 = true := layS_strs h
  have d : (PyData.tuple (l.map PyData.str)).depth ≤ 64 := by
    show PyData.depthAll (l.map PyData.str) + 1 ≤ 64
    rw [depth_strs]
    decide
  rw [e, decide_eq_true d]
  rfl
theorem WfC.lay {cs : List CL} (g : WfC cs) : ∀ c ∈ cs, (dC c).canLay0 = true := fun c hc => dC_lay (nameS_ok (g.tab c hc)) fun k hk => nameS_ok (g.nam c hc k hk)
theorem eqv_dCs : ∀ (l m : List CL), PyData.eqvAll (l.map dC) (m.map dC) = decide (l = m)
  | [], [] => rfl
  | [], _ :: _ => rfl
  | _ :: _, [] => rfl
  | a :: l, b :: m => by
    rw [List.map_cons, List.map_cons, PyData.eqvAll, eqv_dCs l m, dC_eqv]
    by_cases e : a = b
    · subst e
      simp
    · rw [decide_eq_false e, Bool.false_and]
      exact (decide_eq_false fun h => e (by injection h)).symm
/-! ### what the class's text gives -/
structure TLn (mg : Str → Option Value) : Prop where
  len : mg "len" = none
  dct : mg "dict" = none
  tup : mg "tuple" = none
  itr : mg "iter" = none
  enu : mg "enumerate" = none
  str : mg "str" = none
section
variable {P : Program} {w : World} {K : PySem.W.Frag} {mg : Str → Option Value} {base : Heap} {C : Addr}
theorem scG2 : FnScope ["self"] ["self"] (defScope (sQ 2)) := ⟨rfl, rfl, rfl, by decide +kernel, rfl, by decide +kernel, by decide +kernel⟩
theorem ok_gClauses {f : Addr} {fd : FuncData} (F : Fun K "clauses" "Question.clauses" (sQ 2) f fd) (T : TQu K C) : FnOk P w K mg base CX0 1 f fd ["self"] (getSp C "_clauses") := by
  refine F.ok scG2 (fun vs H Q E h => ?_) (fun cdv A outer s H vs Q E hr h => ?_)
  · obtain ⟨a, dx, fs, v, rfl, _⟩ := h
    rfl
  · obtain ⟨a, dx, fs, v, rfl, ea, l, q⟩ := h
    exact ⟨_, pss_one (ps_ret (pe_fld (pv 0) rfl)), .ref a, rfl, a, C, dx, fs, v, rfl, ea, T.cl, T.n1, l, q⟩
theorem scG3 : FnScope ["self"] ["self"] (defScope (sQ 3)) := ⟨rfl, rfl, rfl, by decide +kernel, rfl, by decide +kernel, by decide +kernel⟩
theorem ok_gAsked {f : Addr} {fd : FuncData} (F : Fun K "asked" "Question.asked" (sQ 3) f fd) (T : TQu K C) : FnOk P w K mg base CX0 1 f fd ["self"] (getSp C "_asked") := by
  refine F.ok scG3 (fun vs H Q E h => ?_) (fun cdv A outer s H vs Q E hr h => ?_)
  · obtain ⟨a, dx, fs, v, rfl, _⟩ := h
    rfl
  · obtain ⟨a, dx, fs, v, rfl, ea, l, q⟩ := h
    exact ⟨_, pss_one (ps_ret (pe_fld (pv 0) rfl)), .ref a, rfl, a, C, dx, fs, v, rfl, ea, T.cl, T.n2, l, q⟩
end
end K0

/-! ## Y0 -/
set_option maxRecDepth 100000
set_option maxHeartbeats 4000000
namespace K0
open PySem L2 NS RZ
/-! ### loops over any walk, with the state -/
theorem for_walk {J : It} {n : Nat} {G : Hp → Prop} {Y : Nat → Hp → V → Hp → Prop} (w : Walk J n G Y) {g : TG} {tb : TS} {D : Ends} {σ0 : L2.St} {H0 : Hp} (Pv : Nat → L2.St → Hp → Prop) (h0 : Pv 0 σ0 H0) (hG : ∀ i σ H, i ≤ n → Pv i σ H → G H)
    (hs : ∀ i x σ H H', i < n → Pv i σ H → Y i H x H' → g x σ H' fun σ2 H2 => tb { D with nx := Pv (i + 1), ct := Pv (i + 1), bk := D.nx } σ2 H2) (hd : ∀ σ H, Pv n σ H → D.nx σ H) :
    ∃ W : Nat → Nat → L2.St → Hp → Prop, (∃ m, W 0 m σ0 H0) ∧ ∀ i m σ H, W i m σ H → (J.stop i H ∧ D.nx σ H) ∨ (J.go i H ∧ ∃ N : L2.St → Hp → Prop, (∀ σ' H', N σ' H' → ∃ m', m' < m ∧ W (i + 1) m' σ' H') ∧ ∀ x H', J.yld i H x H' → g x σ H' fun σ2 H2 => tb { D with nx := N, ct := N, bk := D.nx } σ2 H2) := by
  refine ⟨fun i m σ H => m = n - i ∧ i ≤ n ∧ Pv i σ H, ⟨n, by simp, Nat.zero_le _, h0⟩, ?_⟩
  rintro i m σ H ⟨rfl, hi, p⟩
  have q := hG i σ H hi p
  by_cases hlt : i < n
  · exact .inr ⟨w.goes i H hlt q, Pv (i + 1), fun σ' H' p' => ⟨n - (i + 1), by omega, rfl, hlt, p'⟩, fun x H' y => hs i x σ H H' hlt p (w.yields i H x H' hlt q y)⟩
  · have e : i = n := by omega
    subst e
    exact .inl ⟨w.stops H q, hd σ H p⟩
/-! ### clauses, sorted -/
def rowsC : List Addr → List CL → List Row
  | t :: ts, c :: cs => (t, keyC c) :: rowsC ts cs
  | _, _ => []
theorem rowsC_all {H : Hp} : ∀ {ts : List Addr} {cs : List CL}, Cls H ts cs → (rowsC ts cs).map (·.1) = ts ∧ (rowsC ts cs).map (·.2) = cs.map keyC ∧ ∀ m ∈ rowsC ts cs, ∃ c, m.2 = keyC c ∧ ClA H m.1 c
  | _, _, .nil => ⟨rfl, rfl, fun _ h => by cases h⟩
  | _, _, .cons (c := c) h r => by
    obtain ⟨h1, h2, h3⟩ := rowsC_all r
    refine ⟨by rw [rowsC, List.map_cons, h1], by rw [rowsC, List.map_cons, List.map_cons, h2], fun m hm => ?_⟩
    rcases List.mem_cons.mp hm with e | e
    · rw [e]; exact ⟨c, rfl, h⟩
    · exact h3 m e
theorem sorted_cls {H : Hp} {ts : List Addr} {cs : List CL} (h : Cls H ts cs) (nd : cs.Nodup) {M : List Row} (pm : M.Perm (rowsC ts cs)) (pw : M.Pairwise fun m m' => ltK m'.2 m.2 = false) :
    ∃ cs', Cls H (M.map (·.1)) cs' ∧ cs'.Pairwise (fun c c' => ltC c c' = true) ∧ ∀ c, c ∈ cs' ↔ c ∈ cs := by
  obtain ⟨h1, h2, h3⟩ := rowsC_all h
  obtain ⟨cs', c1, c2⟩ := rows_cls M fun m hm => h3 m (pm.mem_iff.mp hm)
  have pk : (cs'.map keyC).Perm (cs.map keyC) := by
    rw [c2, ← h2]
    exact pm.map _
  have mem : ∀ c, c ∈ cs' ↔ c ∈ cs := fun c => by
    have inj : ∀ l : List CL, keyC c ∈ l.map keyC ↔ c ∈ l := fun l => ⟨fun z => by
      obtain ⟨d, hd, e⟩ := List.mem_map.mp z
      rw [← keyC_inj e]
      exact hd, fun z => List.mem_map.mpr ⟨c, z, rfl⟩⟩
    rw [← inj cs', ← inj cs]
    exact pk.mem_iff
  refine ⟨cs', c1, ?_, mem⟩
  have ndk : (cs.map keyC).Nodup := List.pairwise_map.mpr (nd.imp fun {a b} n e => n (keyC_inj e))
  have ndk' : (cs'.map keyC).Nodup := pk.nodup_iff.mpr ndk
  have pw' : (cs'.map keyC).Pairwise fun k k' => ltK k' k = false := by
    rw [c2]
    exact List.pairwise_map.mpr pw
  have both : (cs'.map keyC).Pairwise fun k k' => ltK k k' = true := by
    refine (pw'.and ndk').imp fun {a b} h => ?_
    rcases ltK_tot a b h.2 with z | z
    · exact z
    · rw [h.1] at z; cases z
  exact pair_map both
theorem sorted_len {H : Hp} {ts : List Addr} {cs : List CL} (h : Cls H ts cs) {M : List Row} (pm : M.Perm (rowsC ts cs)) : M.length = cs.length := by
  obtain ⟨h1, _, _⟩ := rowsC_all h
  rw [pm.length_eq, ← h.len, ← congrArg List.length h1, List.length_map]
theorem any_dC (c : CL) (cs : List CL) : ((cs.map dC).any fun z => PyData.eqv z (dC c)) = decide (c ∈ cs) := by
  rw [Bool.eq_iff_iff, List.any_eq_true, decide_eq_true_eq]
  constructor
  · rintro ⟨z, hz, e⟩
    obtain ⟨d, hd, rfl⟩ := List.mem_map.mp hz
    rw [dC_eqv, decide_eq_true_eq] at e
    rw [← e]
    exact hd
  · intro h
    exact ⟨dC c, List.mem_map.mpr ⟨c, h, rfl⟩, by rw [dC_eqv]; exact decide_eq_true rfl⟩
end K0

/-! ## P5 -/
set_option maxRecDepth 100000
set_option maxHeartbeats 2000000
namespace K0
open PySem PySem.Spec PyProof.Rows L2 Builtin
/-! ### enumerate(t), t a tuple -/
theorem meets_enumT (l : Addr) (items : Array Value) :
    Meets (Builtin.«enumerate.__new__» ⟨[.type "enumerate", .ref l], []⟩) (fun _ R s => s.heap.IsTuple l items ∧
      R (.ok (.ret (.ref (s.heap.push { cls := .type "tuple_iterator", data := .fields #[.ref l, .int 0 0] }).objs.size)))
        { s with heap := (s.heap.push { cls := .type "tuple_iterator", data := .fields #[.ref l, .int 0 0] }).push { cls := .type "enumerate", data := .fields #[.none, .bool false, .ref s.heap.objs.size, rawInt 0, .none, .none] } }) :=
  .of_wp fun prog w A R s h => by
    obtain ⟨hp, g, d, tk, os⟩ := s; obtain ⟨hl, h⟩ := h
    have hsub := sub_enumerate
    have hL : Heap.IsTuple (Shared.heap ⟨hp, g, d, tk, os⟩) l items := hl
    wp_walk
    refine wpAny_stack_any fun st => wpAny_pure ?_
    split
    · rename_i c _ _ _ _ _
      cases (c == Value.type "enumerate")
      · wp_walk using wpAny_pyIter_tuple hL
        exact ⟨_, rfl, h⟩
      · wp_walk using wpAny_pyIter_tuple hL
        exact ⟨_, rfl, h⟩
    · wp_walk using wpAny_pyIter_tuple hL
      exact ⟨_, rfl, h⟩
section
variable {prog : Program} {w : World} {A : Around} {E : Value → Shared → Prop} {s : Shared}
theorem call_enumT {l : Addr} {items : Array Value} {Q : Value → Shared → Prop} (hL : s.heap.IsTuple l items)
    (h : ∀ h', IsEnum h' (s.heap.objs.size + 1) s.heap.objs.size 0 .none → h'.IsTupleIter s.heap.objs.size l 0 → h'.objs.size = s.heap.objs.size + 2 →
      (∀ b o, s.heap.get? b = some o → h'.get? b = some o) → Q (.ref (s.heap.objs.size + 1)) { s with heap := h' }) :
    wpAny (model prog w) A (call (.type "enumerate") [.ref l]) Q E s := by
  refine callType_new F.called_enumerate (by decide) (F.typeCall_enumerate_1 _) (F.newCall_enumerate_1 _) (fun obj => F.args_object_init_2 obj _) F.entry_enumerate_new
    (meets_enumT l items) ⟨hL, ?_⟩
  have hz : (s.heap.push { cls := .type "tuple_iterator", data := .fields #[.ref l, .int 0 0] }).objs.size = s.heap.objs.size + 1 := Heap.size_push ..
  show _ ∧ _
  rw [hz]
  have he : IsEnum ((s.heap.push { cls := .type "tuple_iterator", data := .fields #[.ref l, .int 0 0] }).push
      { cls := .type "enumerate", data := .fields #[.none, .bool false, .ref s.heap.objs.size, rawInt 0, .none, .none] }) (s.heap.objs.size + 1) s.heap.objs.size 0 .none := by
    have := Heap.get?_push_size (s.heap.push { cls := .type "tuple_iterator", data := .fields #[.ref l, .int 0 0] })
      (o := { cls := .type "enumerate", data := .fields #[.none, .bool false, .ref s.heap.objs.size, rawInt 0, .none, .none] }) rfl
    rw [hz] at this; exact this
  refine ⟨⟨_, he, rfl⟩, h _ he ⟨_, Heap.get?_push_of_some _ (Heap.get?_push_size _ rfl), rfl, rfl⟩ (by rw [Heap.size_push, hz]) fun b o x => Heap.get?_push_of_some _ (Heap.get?_push_of_some _ x)⟩
end
/-- the tuple at a, each item in a new pair with its place -/
def IteT (K : PySem.W.Frag) (a : Addr) : It :=
  ⟨fun i H => ∃ (xs : List V) (x : V), SqT K H a xs ∧ xs[i]? = some x, fun i H v H' => ∃ T x, v = .ref T ∧ H T = none ∧ H' = upd H T (.tup [.int (i : Nat), x]) ∧ ∀ xs, SqT K H a xs → xs[i]? = some x, fun i H => ∃ xs : List V, SqT K H a xs ∧ xs.length ≤ i⟩
theorem turn_enumT {P : Program} {w : World} {K : PySem.W.Frag} {elts : List Expr} {kk : Nat} {tpos : Pos} (a e it : Addr) :
    Turn P w K (.Tuple elts kk tpos) (IteT K a) [e, it] e (fun i h => (∃ old, IsEnum h e it ((i : Nat) : Int) old) ∧ h.IsTupleIter it a i ∧ e ≠ it) where
  mem := by simp
  obj := fun i h st b hb => by
    obtain ⟨⟨old, he⟩, ⟨o, ho, hc, hd⟩, _⟩ := st
    have e' : b = e ∨ b = it := by simpa using hb
    rcases e' with z | z
    · rw [z]; exact ⟨_, he, fun v q => nomatch q⟩
    · rw [z]; exact ⟨o, ho, fun v q => by rw [hd] at q; cases q⟩
  keep := fun i h h' st k => let ⟨⟨old, he⟩, hi, hne⟩ := st; ⟨⟨old, k e (by simp) _ he⟩, hi.at fun o q => k it (by simp) o q, hne⟩
  item := by
    intro X hP hw hK hc i pins s σ H E I hf st hg
    subst hP hw hK
    obtain ⟨⟨old, he⟩, hit, hne⟩ := st
    obtain ⟨xs, x, hq, hx⟩ := hg
    obtain ⟨its, rv, p, hz⟩ := I.tuple hq
    obtain ⟨u, hu, ru⟩ := rv.get hx
    have hel : e < s.heap.objs.size := Heap.lt_size he
    have hil : it < s.heap.objs.size := by obtain ⟨_, q, _⟩ := hit; exact Heap.lt_size q
    have hp : s.heap.IsTuple a its.toArray := p
    have nai : a ≠ it := fun z => by
      obtain ⟨o, e1, c1, _⟩ := hp
      obtain ⟨o2, e2, c2, _⟩ := hit
      rw [z, e2] at e1
      cases e1
      rw [c2] at c1
      injection c1 with c1
      exact absurd c1 (by decide)
    have nae : e ≠ a := fun z => by
      obtain ⟨o, e1, c1, _⟩ := hp
      have he' : s.heap.get? e = some _ := he
      rw [z, e1] at he'
      cases he'
      injection c1 with c1
      exact absurd c1 (by decide)
    have hlt : i < its.toArray.size := by
      have := (List.getElem?_eq_some_iff.mp hu).1
      simpa using this
    refine wpAny_pyNext_enum_itemD (Draws.tuple (A := X.A.in1) (I.ok.hd hc) it a nai its.toArray) he ⟨hit, hp⟩ hlt hne (by simp [hne, nae]) fun x' h' tk hP ho st' hT hsz hk => ?_
    have ex : x' = u := by
      have z : its.toArray[i]? = some x' := hP
      have z2 : its.toArray[i]? = some u := by simpa using hu
      rw [z2] at z
      exact (Option.some.inj z).symm
    subst ex
    refine ⟨_, rfl, wpAny_letOwnedTupleGo_enum (s := { s with heap := h', toks := tk + 1 }) ho fun h'' he' sb => ?_⟩
    have hT2 : h''.get? s.heap.objs.size = some { cls := .type "tuple", data := .seq #[.int i tk, x'] } := (sb.2 _ (Nat.ne_of_gt hel)).trans hT
    have new : ObjOk X.prog X.w (upd H s.heap.objs.size (.tup [.int (i : Nat), x])) h'' s.heap.objs.size (.tup [.int (i : Nat), x]) :=
      ⟨by show 2 ≤ sizeLine; decide, [.int i tk, x'], .cons ⟨_, rfl⟩ (.cons ru .nil), ⟨_, hT2, rfl, _, rfl⟩⟩
    have I1 : Inv X pins σ (upd H s.heap.objs.size (.tup [.int (i : Nat), x])) { s with heap := h'', toks := tk + 1 } :=
      I.turnedNew (ch := [e, it]) (fun b ob hb q => (sb.2 b (fun z => hb (by simp [z]))).trans (hk b ob (fun z => hb (by simp [z])) (fun z => hb (by simp [z])) q)) hf (Nat.le_refl _) new
    refine ⟨.ref s.heap.objs.size, _, I1, rfl, ⟨_, x, rfl, I.hok.fresh (Nat.le_refl _), rfl, fun ys hy => by rw [I.tuple_inj hy hq]; exact hx⟩, ⟨⟨x', ?_⟩, st'.1.at fun o q => (sb.2 it (Ne.symm hne)).trans q, hne⟩, fun b hb => ?_⟩
    · have e1 : ((i + 1 : Nat) : Int) = (i : Int) + 1 := by omega
      rw [e1]; exact he'
    · have hb' : b < s.heap.objs.size := by
        have e' : b = e ∨ b = it := by simpa using hb
        rcases e' with z | z
        · rw [z]; exact hel
        · rw [z]; exact hil
      rw [upd_ne (Nat.ne_of_lt hb')]
      exact (hf b hb).1
  done := by
    intro X hP hw hK hc i pins s σ H E I hf st hg
    subst hP hw hK
    obtain ⟨⟨old, he⟩, hit, hne⟩ := st
    obtain ⟨xs, hq, hx⟩ := hg
    obtain ⟨its, rv, p, hz⟩ := I.tuple hq
    obtain ⟨f0, f1, f2, f3, f4, f5⟩ := hf it (by simp)
    have hl := rv.length
    have hp : s.heap.IsTuple a its.toArray := p
    have hT : s.TypeIs (.ref e) "enumerate" := ⟨_, he, rfl⟩
    unfold pyNext
    refine wpAny_bind (wpAny_attempt (wpAny_callSpecial?_slot (name := Str.ofString "__next__") hT F.slot_enumerate_next
      (wpAny_call_entry F.slot_enumerate_next hT F.entry_enumerate_next ?_ (F.args_enumerate_next_1 _))))
    show wpAny _ _ (field (.ref e) 2 >>= _) _ _ _
    refine wpAny_bind (wpAny_field he rfl (x := .ref it) rfl ?_)
    refine wpAny_bind (wpAny_nextOf_tuple_end (show X.A.in1.in1.handled = none from I.ok.hd hc) hit hp (by simp; omega) fun h' x he' hx' => ?_)
    obtain ⟨o, ho, hc'⟩ := hx'
    refine wpAny_bind (wpAny_isInstance (T := "StopIteration") (b := true) ⟨o, ho, hc'⟩ isSubtype_stop ?_)
    exact wpAny_pure ⟨rfl, I.turned (t' := s.toks) (fun b o hb q => he' b o hb q) f0 f1 f3 f4 f5⟩
  self := fun A i s Q E st h => let ⟨⟨_, he⟩, _⟩ := st; wpAny_pyIter_enum he h
def iEnumT (K : PySem.W.Frag) (ta : L2.TA) : TI := fun σ H R => ta σ H fun vs H1 => ∃ a xs, vs = [.ref a] ∧ SqT K H1 a xs ∧ R (IteT K a) H1
theorem pi_enumT {X : Cx} {e : Expr} {ta : L2.TA} {p pos tpos : Pos} {elts : List Expr} {kk : Nat} (hg : L2.Gl X "enumerate") (hm : X.mg "enumerate" = none) (ha : PA X [e] ta) (hs : starEach [e] X.env = [(false, eval e X.env)] := by rfl) :
    PI X (.Tuple elts kk tpos) (.Call (.Name "enumerate" p) [e] [] pos) (iEnumT X.K ta) := by
  refine ⟨fun pins s σ H R I h => ?_⟩
  refine Call_ (ld_blt I hg hm boot_enumerate (PyProof.Rows.callWith_type1 (thn (ha.run pos pins s σ H _ I h) fun us s1 ⟨vs, H1, I1, r1, q1⟩ => ?_) hs rfl))
  obtain ⟨a, xs, ex, hq, q⟩ := q1
  subst ex
  cases r1 with
  | cons r rr =>
    cases rr
    cases r
    obtain ⟨its, rv, p', hz⟩ := I1.tuple hq
    refine call_enumT (show s1.heap.IsTuple a its.toArray from p') fun h' he hit hsz hk => wpAny_pyIter_enum he ?_
    have I2 : Inv X pins σ H1 { s1 with heap := h' } := I1.kept (t' := s1.toks) hk
    refine ⟨s1.heap.objs.size + 1, [s1.heap.objs.size + 1, s1.heap.objs.size], _, _, H1, rfl, I2, turn_enumT a (s1.heap.objs.size + 1) s1.heap.objs.size, ⟨⟨.none, he⟩, hit, Nat.succ_ne_self _⟩, fun b hb => ?_, q⟩
    have e' : b = s1.heap.objs.size + 1 ∨ b = s1.heap.objs.size := by simpa using hb
    have hle : s1.heap.objs.size ≤ b := by
      rcases e' with z | z
      · rw [z]; exact Nat.le_add_right _ _
      · rw [z]; exact Nat.le_refl _
    exact I1.fpOk hle (I1.hok.fresh hle)
theorem walk_enumT {K : PySem.W.Frag} {a : Addr} {xs : List V} : Walk (IteT K a) xs.length (fun H => SqT K H a xs) (YPair (fun i => some (.int (i : Nat))) (fun i => xs[i]?)) := by
  refine ⟨fun i _ hi q => ⟨xs, xs[i], q, by simp [hi]⟩, fun _ q => ⟨xs, q, Nat.le_refl _⟩, fun i H v H' _ q y => ?_⟩
  obtain ⟨T, x, h1, h2, h3, h4⟩ := y
  exact ⟨T, .int (i : Nat), x, h1, h2, h3, rfl, h4 xs q⟩
end K0

/-! ## Y1 -/
set_option maxRecDepth 100000
set_option maxHeartbeats 2000000
namespace K0
open PySem L2 NS RZ
/-! ### the first ones of some names -/
def foA (pre : List Str) : List Str → List Str
  | [] => []
  | x :: r => (if x ∈ pre then [] else [x]) ++ foA (pre ++ [x]) r
def fo (L : List Str) : List Str := foA [] L
theorem foA_snoc : ∀ (r pre : List Str) (x : Str), foA pre (r ++ [x]) = foA pre r ++ (if x ∈ pre ++ r then [] else [x])
  | [], pre, x => by simp [foA]
  | y :: r, pre, x => by
    show (if y ∈ pre then [] else [y]) ++ foA (pre ++ [y]) (r ++ [x]) = ((if y ∈ pre then [] else [y]) ++ foA (pre ++ [y]) r) ++ _
    rw [foA_snoc r (pre ++ [y]) x, List.append_assoc, List.append_assoc]
    rfl
theorem foA_mem : ∀ (r pre : List Str) (x : Str), x ∈ foA pre r ↔ x ∈ r ∧ x ∉ pre
  | [], pre, x => by simp [foA]
  | y :: r, pre, x => by
    show x ∈ (if y ∈ pre then [] else [y]) ++ foA (pre ++ [y]) r ↔ _
    rw [List.mem_append, foA_mem r (pre ++ [y]) x]
    by_cases h : y ∈ pre
    · rw [if_pos h]
      constructor
      · rintro (h1 | ⟨h1, h2⟩)
        · cases h1
        · exact ⟨List.mem_cons_of_mem _ h1, fun m => h2 (List.mem_append_left _ m)⟩
      · rintro ⟨h1, h2⟩
        rcases List.mem_cons.mp h1 with e | h1
        · rw [e] at h2; exact absurd h h2
        · refine .inr ⟨h1, fun m => ?_⟩
          rcases List.mem_append.mp m with m | m
          · exact h2 m
          · rw [List.mem_singleton.mp m] at h2; exact h2 h
    · rw [if_neg h]
      constructor
      · rintro (h1 | ⟨h1, h2⟩)
        · rw [List.mem_singleton.mp h1]
          exact ⟨List.mem_cons_self, h⟩
        · exact ⟨List.mem_cons_of_mem _ h1, fun m => h2 (List.mem_append_left _ m)⟩
      · rintro ⟨h1, h2⟩
        by_cases e : x = y
        · exact .inl (List.mem_singleton.mpr e)
        · rcases List.mem_cons.mp h1 with e1 | h1
          · exact absurd e1 e
          · refine .inr ⟨h1, fun m => ?_⟩
            rcases List.mem_append.mp m with m | m
            · exact h2 m
            · exact e (List.mem_singleton.mp m)
theorem fo_mem (L : List Str) (x : Str) : x ∈ fo L ↔ x ∈ L := by
  unfold fo
  rw [foA_mem]
  simp
theorem foA_nodup : ∀ (r pre : List Str), (foA pre r).Nodup
  | [], pre => List.nodup_nil
  | y :: r, pre => by
    show ((if y ∈ pre then [] else [y]) ++ foA (pre ++ [y]) r).Nodup
    by_cases h : y ∈ pre
    · rw [if_pos h]
      exact foA_nodup r (pre ++ [y])
    · rw [if_neg h]
      refine List.nodup_cons.mpr ⟨fun m => ?_, foA_nodup r (pre ++ [y])⟩
      have z := ((foA_mem r (pre ++ [y]) y).mp m).2
      exact z (List.mem_append_right _ (List.mem_singleton.mpr rfl))
theorem fo_nodup (L : List Str) : (fo L).Nodup := foA_nodup L []
theorem fo_snoc (L : List Str) (x : Str) : fo (L ++ [x]) = fo L ++ (if x ∈ L then [] else [x]) := by
  unfold fo
  rw [foA_snoc, List.nil_append]
theorem foA_len : ∀ (r pre : List Str), (foA pre r).length ≤ r.length
  | [], pre => Nat.le_refl _
  | y :: r, pre => by
    show ((if y ∈ pre then [] else [y]) ++ foA (pre ++ [y]) r).length ≤ r.length + 1
    have z := foA_len r (pre ++ [y])
    rw [List.length_append]
    split
    · simp only [List.length_nil]; omega
    · simp only [List.length_cons, List.length_nil]; omega
theorem fo_len (L : List Str) : (fo L).length ≤ L.length := foA_len L []
/-- one by one: taken where it does not stand ahead -/
theorem foA_sieve : ∀ (r pre : List Str), ((List.range r.length).filter fun i => decide (r.getD i Str.empty ∉ pre ++ r.take i)).map (fun i => r.getD i Str.empty) = foA pre r
  | [], pre => rfl
  | y :: r, pre => by
    have ih := foA_sieve r (pre ++ [y])
    show (List.filter _ (List.range (r.length + 1))).map _ = (if y ∈ pre then [] else [y]) ++ foA (pre ++ [y]) r
    rw [List.range_succ_eq_map, List.filter_cons, ← ih]
    have e0 : (pre ++ (y :: r).take 0) = pre := by simp
    have e1 : (y :: r).getD 0 Str.empty = y := rfl
    have es : (List.map Nat.succ (List.range r.length)).filter (fun i => decide ((y :: r).getD i Str.empty ∉ pre ++ (y :: r).take i)) = ((List.range r.length).filter fun i => decide (r.getD i Str.empty ∉ (pre ++ [y]) ++ r.take i)).map Nat.succ := by
      rw [List.filter_map]
      congr 1
      refine List.filter_congr fun i _ => ?_
      show decide (r.getD i Str.empty ∉ pre ++ (y :: r.take i)) = _
      rw [List.append_assoc]
      rfl
    rw [es, e0, e1]
    by_cases h : y ∈ pre
    · rw [if_pos h, if_neg (by simp [h]), List.nil_append, List.map_map]
      rfl
    · rw [if_neg h, if_pos (by simp [h]), List.map_cons, List.map_map]
      rfl
theorem fo_sieve (L : List Str) : ((List.range L.length).filter fun i => decide (L.getD i Str.empty ∉ L.take i)).map (fun i => L.getD i Str.empty) = fo L := by
  have z := foA_sieve L []
  simp only [List.nil_append] at z
  exact z
/-- a comprehension that leaves some out -/
theorem lc_sieve {J : It} {n : Nat} {G : Hp → Prop} {Y : Nat → Hp → V → Hp → Prop} (w : Walk J n G Y) {g : TG} {tt : TT} {te : TE} {vs : List Nat} {σ : L2.St} {H1 : Hp} {D : Addr} {Qd : Hp → Prop} (keep : Nat → Bool) (f : Nat → V)
    (hn : n < sizeLine) (hD : H1 D = none) (hG : ∀ H, Same H1 H → G H)
    (hs : ∀ i x H H', i < n → Same H1 H → Y i H x H' → g x (wipe σ vs) H' fun σ2 H2 => wipe σ2 vs = wipe σ vs ∧ (∀ (Q : Bool → Hp → Prop), (∀ H3, Same H H3 → Q (keep i) H3) → tt σ2 H2 Q) ∧
      (keep i = true → ∀ (Q : V → Hp → Prop) (H3 : Hp), Same H H3 → (∀ H4, Same H H4 → Q (f i) H4) → te σ2 H3 Q))
    (gm : ∀ x σ H (P R : L2.St → Hp → Prop), (∀ σ2 H2, P σ2 H2 → R σ2 H2) → g x σ H P → g x σ H R)
    (hd : ∀ H, Same H1 H → H D = some (.lst (((List.range n).filter keep).map f)) → Qd H) :
    ∃ W : Nat → Nat → Hp → Prop, (∃ m, W 0 m (upd H1 D (.lst []))) ∧ ∀ i m H, W i m H →
      (J.stop i H ∧ Qd H) ∨ (J.go i H ∧ ∃ Nx : Hp → Prop, (∀ H', Nx H' → ∃ m', m' < m ∧ W (i + 1) m' H') ∧ ∀ x H', J.yld i H x H' → g x (wipe σ vs) H' fun σ2 H2 => wipe σ2 vs = wipe σ vs ∧ tt σ2 H2 fun b H3 =>
        if b = true then te σ2 H3 fun y H4 => ∃ acc, H4 D = some (.lst acc) ∧ acc.length < sizeLine ∧ Nx (upd H4 D (.lst (acc ++ [y]))) else Nx H3) := by
  refine lc_it w (fun i H => Same H1 H ∧ H D = some (.lst (((List.range i).filter keep).map f))) ⟨K0.Same.new _ hD, upd_same⟩ (fun i H _ p => hG H p.1) (fun i x H H' hi p y => ?_) (fun H p => hd H p.1 p.2)
  refine gm _ _ _ _ _ (fun σ2 H2 q => ⟨q.1, ?_⟩) (hs i x H H' hi p.1 y)
  refine q.2.1 _ fun H3 s3 => ?_
  have lenf : ((List.range i).filter keep).length ≤ i := by
    have z := List.length_filter_le keep (List.range i)
    rwa [List.length_range] at z
  cases c : keep i with
  | true =>
    rw [if_pos rfl]
    refine q.2.2 c _ _ s3 fun H4 s4 => ⟨_, s4 _ _ p.2, by rw [List.length_map]; omega, fun b o e => ?_, ?_⟩
    · rw [upd_ne (ne_of_none e hD)]
      exact s4 _ _ (p.1 _ _ e)
    · rw [upd_same, List.range_succ, List.filter_append, List.map_append]
      simp [c]
  | false =>
    rw [if_neg Bool.false_ne_true]
    refine ⟨K0.Same.tr p.1 s3, ?_⟩
    rw [s3 _ _ p.2, List.range_succ, List.filter_append]
    simp [c]
theorem none_same {H H' : Hp} {l : Addr} (s : Same H H') (h : H' l = none) : H l = none := by
  cases e : H l with
  | none => rfl
  | some o =>
    rw [s _ _ e] at h
    cases h
/-! ### the program's _first_ones -/
abbrev sFirst : Stmt := top 28
def spFirst (K : PySem.W.Frag) : Sp := fun vs H Q _ => ∃ (a : Addr) (L : List Str), vs = [.ref a] ∧ SqL K H a (L.map V.str) ∧ L.length ≤ 1000 ∧ ∀ t H', Same H H' → H t = none → H' t = some (.tup ((fo L).map V.str)) → Q (.ref t) H'
section
variable {P : Program} {w : World} {K : PySem.W.Frag} {mg : Str → Option Value} {base : Heap}
abbrev nFirst : List Str := ["names", "at", "name"]
theorem scFirst : FnScope nFirst ["names"] (defScope sFirst) := ⟨rfl, rfl, rfl, by decide +kernel, rfl, by decide +kernel, by decide +kernel⟩
theorem ok_first {f : Addr} {fd : FuncData} (F : Fun K "_first_ones" "_first_ones" sFirst f fd) (tup : mg "tuple" = none) (enu : mg "enumerate" = none) : FnOk P w K mg base CX0 1 f fd ["names"] (spFirst K) := by
  refine F.ok scFirst (fun vs H Q E h => ?_) (fun cdv A outer s H vs Q E hr h => ?_)
  · obtain ⟨a, L, rfl, _⟩ := h
    rfl
  · obtain ⟨a, L, rfl, hS, n1, k⟩ := h
    refine ⟨_, pss_one (ps_ret (pe_callTy (T := "tuple") call_tuple_of (by rfl) tup (by decide +kernel) (pa_cons (pe_lc (own := [("at", 1), ("name", 2)]) (g := gTup K 2 (gCons (gName 1) (gCons (gName 2) gNil)))
        (tt := tTest (tOp (rIn K true) (tVar 2) (tSl (rSlL K) (tVar 0) tNoPart (tPart (tVar 1))))) rfl scFirst.nd
        (pi_enum (by rfl) enu (pa_cons (pv 0) pa_nil)) (blkOk_by (own := [("at", 1), ("name", 2)]) (N := nFirst) (sc := defScope sFirst) (by decide +kernel))
        (fun _ _ _ _ _ => pg_tup rfl (pgs_cons (pg_name (i := 1) scFirst.nd rfl (Or.inl rfl)) (pgs_cons (pg_name (i := 2) scFirst.nd rfl (Or.inl rfl)) pgs_nil)))
        (fun _ _ _ _ _ => pts_one (pt_cmpR (r := rIn K true) op_notIn_seq (pv 2) (pe_slice sl_list (pv 0) po_none (po_some (pv 1))) rfl)) (fun _ _ _ _ _ => pv 2)) pa_nil))), ?_⟩
    refine ⟨_, rfl, a, _, rfl, hS, fun D hD => lc_sieve (walk_enum (K := K) (a := a) (xs := L.map V.str)) (fun i => decide (L.getD i Str.empty ∉ L.take i)) (fun i => .str (L.getD i Str.empty)) (by rw [List.length_map, sizeLine_eq]; omega) hD (fun H1 s1 => s1.seq hS) ?_ gPair_mono ?_⟩
    · rintro i x H1 H2 hi s1 ⟨T2, y, z, rfl, hT, rfl, hy, hz⟩
      obtain rfl : V.int (i : Nat) = y := Option.some.inj hy
      have hz' : (L.map V.str)[i]? = some z := hz
      rw [List.getElem?_map] at hz'
      obtain ⟨t, ht, rfl⟩ := Option.map_eq_some_iff.mp hz'
      have sT : Same H1 (upd H1 T2 (.tup [V.int (i : Nat), V.str t])) := K0.Same.new _ hT
      have et : L.getD i Str.empty = t := by simp [List.getD, ht]
      refine ⟨T2, _, rfl, SqT.of upd_same, rfl, _, _, rfl, _, _, rfl, rfl, rfl, fun Q' hq => ?_, fun _ Q' H3 s3 hq => ⟨_, rfl, by have z := hq H3 s3; rw [et] at z; exact z⟩⟩
      refine ⟨_, rfl, _, rfl, _, rfl, (i : Int), rfl, a, _, rfl, (sT.seq (s1.seq hS)), fun b hb => ?_⟩
      have hi' : i ≤ L.length := by
        rw [List.length_map] at hi
        exact Nat.le_of_lt hi
      have ec : cutV (L.map V.str) none (some (i : Int)) = (L.take i).map V.str := cutV_take L (i : Int) (by omega) (by omega)
      have sb := K0.Same.new (.lst (cutV (L.map V.str) none (some (i : Int)))) hb
      refine ⟨b, _, rfl, .inl (SqL.of upd_same), rfl, by rw [ec]; exact flat_strs (L.take i), _, rfl, ?_⟩
      rw [if_pos rfl, ec, inV_strs]
      have z := hq _ (K0.Same.tr sT sb)
      rw [et, decide_not] at z
      rw [ec] at z
      exact z
    · intro H1 s1 hD1
      rw [List.length_map] at hD1
      refine ⟨D, (fo L).map V.str, rfl, .inl ⟨SqL.of ?_, fun l hl => ?_⟩⟩
      · rw [hD1, ← fo_sieve L, List.map_map]
        rfl
      · exact k l _ (K0.Same.tr s1 (K0.Same.new _ hl)) (none_same s1 hl) upd_same
end
end K0

/-! ## Y2 -/
set_option maxRecDepth 100000
set_option maxHeartbeats 2000000
namespace K0
open PySem L2 NS RZ
/-! ### clauses with other columns -/
def mapC (f : Str → Str) (c : CL) : CL := (c.1, c.2.map f)
/-- sorted, each once -/
structure Srt (cs : List CL) (L : List CL) : Prop where
  up : cs.Pairwise fun c c' => ltC c c' = true
  mem : ∀ c, c ∈ cs ↔ c ∈ L
theorem Srt.len {cs L : List CL} (s : Srt cs L) : cs.length ≤ L.length := nodup_le _ L (pair_nodup s.up) fun c hc => (s.mem c).mp hc
theorem Srt.one {cs cs' L : List CL} (s : Srt cs L) (s' : Srt cs' L) : cs = cs' := sorted_one s.up s'.up fun c => (s.mem c).trans (s'.mem c).symm
theorem WfC.fold {cs : List CL} (g : WfC cs) {f : Str → Str} (hf : ∀ k ∈ colsIn cs, nameS (f k) = true) {cs' : List CL} (s : Srt cs' (cs.map (mapC f))) : WfC cs' := by
  have back : ∀ c ∈ cs', ∃ d ∈ cs, mapC f d = c := fun c hc => by
    obtain ⟨d, hd, e⟩ := List.mem_map.mp ((s.mem c).mp hc)
    exact ⟨d, hd, e⟩
  obtain ⟨pool, p1, p2⟩ := g.cols
  refine ⟨fun e => ?_, ?_, fun c hc => ?_, fun c hc k hk => ?_, fun c hc => ?_, s.up, fun c hc c' hc' e => ?_, pool.map f, by rw [List.length_map]; exact p1, fun c hc k hk => ?_⟩
  · cases h : cs with
    | nil => exact g.some_ h
    | cons d r =>
      have z : mapC f d ∈ cs' := (s.mem _).mpr (by rw [h]; exact List.mem_cons_self)
      rw [e] at z
      cases z
  · have z := s.len
    rw [List.length_map] at z
    exact Nat.le_trans z g.few
  · obtain ⟨d, hd, rfl⟩ := back c hc
    exact g.tab d hd
  · obtain ⟨d, hd, rfl⟩ := back c hc
    obtain ⟨y, hy, rfl⟩ := List.mem_map.mp hk
    exact hf y (colsIn_mem.mpr ⟨d, hd, hy⟩)
  · obtain ⟨d, hd, rfl⟩ := back c hc
    show 1 ≤ (d.2.map f).length ∧ (d.2.map f).length ≤ 8
    rw [List.length_map]
    exact g.wide d hd
  · obtain ⟨d, hd, rfl⟩ := back c hc
    obtain ⟨d', hd', rfl⟩ := back c' hc'
    show (d.2.map f).length = (d'.2.map f).length
    rw [List.length_map, List.length_map]
    exact g.same d hd d' hd' e
  · obtain ⟨d, hd, rfl⟩ := back c hc
    obtain ⟨y, hy, rfl⟩ := List.mem_map.mp hk
    exact List.mem_map.mpr ⟨y, p2 d hd y hy, rfl⟩
theorem WfQ.fold {q : PQ} (g : WfQ q) {f : Str → Str} (hf : ∀ k ∈ colsIn q.cls, nameS (f k) = true) {cs' : List CL} (s : Srt cs' (q.cls.map (mapC f))) : WfQ ⟨cs', fo (q.asked.map f)⟩ := by
  refine ⟨g.c.fold hf s, fo_nodup _, fun k hk => ?_⟩
  obtain ⟨y, hy, rfl⟩ := List.mem_map.mp ((fo_mem _ _).mp hk)
  obtain ⟨c, hc, h⟩ := colsIn_mem.mp (g.ask y hy)
  exact colsIn_mem.mpr ⟨mapC f c, (s.mem _).mpr (List.mem_map.mpr ⟨c, hc, rfl⟩), List.mem_map.mpr ⟨y, h, rfl⟩⟩
/-- one to one on the columns: nothing falls together -/
theorem fo_inj {f : Str → Str} : ∀ {L : List Str}, L.Nodup → (∀ x ∈ L, ∀ y ∈ L, f x = f y → x = y) → fo (L.map f) = L.map f := by
  have key : ∀ (L pre : List Str), L.Nodup → (∀ x ∈ L, ∀ y ∈ L, f x = f y → x = y) → (∀ x ∈ L, f x ∉ pre) → foA pre (L.map f) = L.map f := by
    intro L
    induction L with
    | nil => intros; rfl
    | cons x r ih =>
      intro pre nd inj no
      obtain ⟨nx, ndr⟩ := List.nodup_cons.mp nd
      show (if f x ∈ pre then [] else [f x]) ++ foA (pre ++ [f x]) (r.map f) = f x :: r.map f
      rw [if_neg (no x List.mem_cons_self), ih _ ndr (fun a ha b hb => inj a (List.mem_cons_of_mem _ ha) b (List.mem_cons_of_mem _ hb)) fun y hy m => ?_]
      · rfl
      · rcases List.mem_append.mp m with m | m
        · exact no y (List.mem_cons_of_mem _ hy) m
        · have e := inj y (List.mem_cons_of_mem _ hy) x List.mem_cons_self (List.mem_singleton.mp m)
          rw [e] at hy
          exact nx hy
  intro L nd inj
  exact key L [] nd inj fun x _ m => by cases m
end K0

/-! ## Y3 -/
set_option maxRecDepth 100000
set_option maxHeartbeats 8000000
namespace K0
open PySem L2 NS RZ
/-! ### Question.folded -/
/-- a dict from these names to what f makes of them -/
def fKv (f : Str → Str) (k : Str) : Key × V := (Sum.inr k, V.str (f k))
theorem valV_fKv {f : Str → Str} {k : Str} : ∀ {ps : List Str}, k ∈ ps → valV (ps.map (fKv f)) (Sum.inr k : Key) = some (V.str (f k))
  | p :: ps, h => by
    by_cases e : p = k
    · subst e
      rw [List.map_cons]
      simp [valV, fKv]
    · have hk : k ∈ ps := by
        rcases List.mem_cons.mp h with z | z
        · exact absurd z.symm e
        · exact z
      have ih := valV_fKv (f := f) hk
      rw [List.map_cons]
      simp only [valV, fKv] at ih ⊢
      rw [List.find?_cons_of_neg (by simpa using e)]
      exact ih
structure NamD (H : Hp) (d : Addr) (ks : List Str) (f : Str → Str) : Prop where
  at_ : ∃ ps : List Str, ps.Nodup ∧ (∀ k, k ∈ ps ↔ k ∈ ks) ∧ H d = some (.dK (ps.map (fKv f)))
theorem NamD.same {H H' : Hp} {d : Addr} {ks : List Str} {f : Str → Str} (h : NamD H d ks f) (s : Same H H') : NamD H' d ks f := by
  obtain ⟨ps, h1, h2, h3⟩ := h.at_
  exact ⟨ps, h1, h2, s _ _ h3⟩
theorem NamD.to {H : Hp} {d : Addr} {ks ks' : List Str} {f : Str → Str} (h : NamD H d ks f) (m : ∀ k, k ∈ ks ↔ k ∈ ks') : NamD H d ks' f := by
  obtain ⟨ps, h1, h2, h3⟩ := h.at_
  exact ⟨ps, h1, fun k => (h2 k).trans (m k), h3⟩
theorem NamD.ex {H : Hp} {d : Addr} {ks : List Str} {f : Str → Str} (h : NamD H d ks f) (n : ks.Nodup) : ∃ kvs : List (Key × V), H d = some (.dK kvs) ∧ kvs.length = ks.length ∧ (∀ k ∈ ks, valV kvs (.inr k) = some (.str (f k))) ∧ (∀ p ∈ kvs, ∃ k ∈ ks, p = (.inr k, .str (f k))) ∧
    ((∀ x ∈ ks, ∀ y ∈ ks, f x = f y → x = y) → (kvs.map fun p => strV p.2).Nodup) := by
  obtain ⟨ps, h1, h2, h3⟩ := h.at_
  have l1 := nodup_le ks ps n fun k hk => (h2 k).mpr hk
  have l2 := nodup_le ps ks h1 fun k hk => (h2 k).mp hk
  refine ⟨_, h3, by rw [List.length_map]; omega, fun k hk => valV_fKv ((h2 k).mpr hk), fun p hp => ?_, fun inj => ?_⟩
  · obtain ⟨k, hk, rfl⟩ := List.mem_map.mp hp
    exact ⟨k, (h2 k).mp hk, rfl⟩
  · rw [List.map_map]
    refine List.pairwise_map.mpr (h1.imp_of_mem fun {a b} ha hb ne e => ne (inj a ((h2 a).mp ha) b ((h2 b).mp hb) e))
theorem strs_map (f : Str → Str) (l : List Str) : (List.range l.length).map (fun j => f (l.getD j Str.empty)) = l.map f := by
  refine List.ext_getElem? fun j => ?_
  rw [List.getElem?_map, List.getElem?_map]
  by_cases h : j < l.length
  · rw [List.getElem?_range h, List.getElem?_eq_getElem h]
    show some (f (l.getD j Str.empty)) = some (f l[j])
    rw [List.getD, List.getElem?_eq_getElem h]
    rfl
  · rw [List.getElem?_eq_none (by rw [List.length_range]; omega), List.getElem?_eq_none (by omega)]
    rfl
theorem ded_nd {ks : List Str} (h : ks.Nodup) : (ded ks).length = ks.length := (ded_full ks).mpr h
def spFolded (K : PySem.W.Frag) (C : Addr) : Sp := fun vs H Q _ => ∃ (p d : Addr) (q : PQ) (ns : List Str) (f : Str → Str), vs = [.ref p, .ref d] ∧ QuO K C H p q ∧ WfQ q ∧ IsCols (colsIn q.cls) ns ∧ NamD H d ns f ∧ (∀ k ∈ ns, nameS (f k) = true) ∧
  ∀ p' H' cs', Same H H' → Srt cs' (q.cls.map (mapC f)) → QuO K C H' p' ⟨cs', fo (q.asked.map f)⟩ → Q (.ref p') H'
abbrev nFold : List Str := ["self", "names", "clauses", "asked", "table", "columns", "column"]
theorem scFold : FnScope nFold ["self", "names"] (defScope (sQ 18)) := ⟨rfl, rfl, rfl, by decide +kernel, rfl, by decide +kernel, by decide +kernel⟩
/-- the outer comprehension's scope -/
abbrev scFoldIn : Scope := { kind := ScopeKind.function, names := [(".0", NameKind.local), ("table", NameKind.local), ("columns", NameKind.local), ("tuple", NameKind.globalImplicit), ("names", NameKind.cell)], isGenerator := false, isCoroutine := false }
structure TFo (mg : Str → Option Value) : Prop where
  tup : mg "tuple" = none
  srt : mg "sorted" = none
  set : mg "set" = none
section
variable {P : Program} {w : World} {K : PySem.W.Frag} {mg : Str → Option Value} {base : Heap} {C CQ fI fD fA fF : Addr} {fdI fdD fdA fdF : FuncData}
theorem ok_folded {f : Addr} {fd : FuncData} (F : Fun K "folded" "Question.folded" (sQ 18) f fd) (T : TQu K C) (B : TFo mg) (gQ : mg "Question" = some (.ref C)) (M : Mk K C fI)
    (GI : FnOk P w K mg base (L2.CX P w) 5 fI fdI ["self", "clauses", "asked"] (spInit2 K C CQ)) (bI : Binds K fdI ["self", "clauses", "asked"] [])
    (eD : Gl K mg "is_dict_from" fD) (GD : FnOk P w K mg base CX0 1 fD fdD ["keys", "value"] (spDFrom K)) (bD : Binds K fdD ["keys", "value"] [])
    (eA : Gl K mg "are_names" fA) (GA : FnOk P w K mg base CX0 2 fA fdA ["value"] spAreNam) (bA : Binds K fdA ["value"] [])
    (eF : Gl K mg "_first_ones" fF) (GF : FnOk P w K mg base CX0 1 fF fdF ["names"] (spFirst K)) (bF : Binds K fdF ["names"] []) :
    FnOk P w K mg base CX0 7 f fd ["self", "names"] (spFolded K C) := by
  refine F.ok scFold (fun vs H Q E h => ?_) (fun cdv A outer s H vs Q E hr h => ?_)
  · obtain ⟨p, d, q, ns, f, rfl, _⟩ := h
    rfl
  · obtain ⟨p, d, q, ns, f, rfl, ⟨tc, ta, to, td, ts, ns', U⟩, g, ic, nd, nn, k⟩ := h
    have hr1 : Room 1 _ := hr.mono (by decide)
    have hr2 : Room 2 _ := hr.mono (by decide)
    refine ⟨_, pss_cons (ps_if (PW.pt (pw_or (pt_not (pt_val (pe_call GD hr1 (by rfl) eD.g eD.k bD .nil pass0 (pa_cons (pe_fld (pv 0) rfl) (pa_cons (pv 1) pa_nil)))))
          (pw_or1 (pt_not (pt_val (pe_call GA hr2 (by rfl) eA.g eA.k bA .nil pass0 (pa_cons (pe_callTy (call_tupleVals rfl) (by rfl) B.tup (by decide +kernel) (pa_cons (pe_bm0 PySem.F.plainAttrs_dict PySem.F.slot_dict_values PySem.F.type_dict_values mt_dvals (pv 1)) pa_nil)) pa_nil))))))) (pss_one ps_never) pss_nil)
      (pss_cons (ps_setLc (i := 2) (own := [("table", 4), ("columns", 5)]) (g := gTup K 2 (gCons (gName 4) (gCons (gName 5) gNil))) (tt := tYes) (te := tTup (tCons (tVar 4) (tCons (tCB (rTupOf K) (tCons (tLc (iTup K (tVar 5)) (gName 6) tYes (tDGet (tVar 1) (tVar 6)) [6]) tNil)) tNil))) (by rfl) scFold.nd rfl rfl (sw_true rfl rfl rfl (by decide +kernel))
          (pi_tup (pe_fld (pv 0) rfl)) (blkOk_by (own := [("table", 4), ("columns", 5)]) (N := nFold) (sc := defScope (sQ 18)) (by decide +kernel))
          (fun _ _ _ _ _ => pg_tup rfl (pgs_cons (pg_name (i := 4) scFold.nd rfl (Or.inl rfl)) (pgs_cons (pg_name (i := 5) scFold.nd rfl (Or.inl rfl)) pgs_nil))) (fun _ _ _ _ _ => pts_nil)
          (fun _ _ _ _ _ => pe_tup (pa_cons (pv 4) (pa_cons (pe_callTy (T := "tuple") (r := rTupOf K) call_tuple_of (by rfl) B.tup (by decide +kernel) (pa_cons
            (pe_lc (own := [("column", 6)]) (wi := iTup K (tVar 5)) (g := gName 6) (tt := tYes) (te := tDGet (tVar 1) (tVar 6)) rfl scFold.nd (pi_tup (pv 5))
              (blkOk_by (own := [("column", 6)]) (N := nFold) (sc := scFoldIn) (by decide +kernel)) (fun _ _ _ _ _ => pg_name (i := 6) scFold.nd rfl (Or.inl rfl)) (fun _ _ _ _ _ => pts_nil)
              (fun _ _ _ _ _ => pe_dget (lt1 hr.units) (pv 1) (pv 6) (fun _ _ => rfl))) pa_nil)) pa_nil))))
      (pss_cons (ps_setLc (i := 3) (own := [("column", 6)]) (g := gName 6) (tt := tYes) (te := tDGet (tVar 1) (tVar 6)) (by rfl) scFold.nd rfl rfl (sw_true rfl rfl rfl (by decide +kernel)) (pi_tup (pe_fld (pv 0) rfl))
          (blkOk_by (own := [("column", 6)]) (N := nFold) (sc := defScope (sQ 18)) (by decide +kernel)) (fun _ _ _ _ _ => pg_name (i := 6) scFold.nd rfl (Or.inl rfl)) (fun _ _ _ _ _ => pts_nil)
          (fun _ _ _ _ _ => pe_dget (lt1 hr.units) (pv 1) (pv 6) (fun _ _ => rfl)))
      (pss_one (ps_ret (pe_make (E := fun _ _ _ => False) M GI hr (by rfl) gQ bI .nil passF (pa_cons (pe_callTy (T := "tuple") call_tuple_of (by rfl) B.tup (by decide +kernel) (pa_cons (pe_callB (cr_sortSet rfl hr.units) (by rfl) B.srt (by decide +kernel) (pa_cons (pe_callTy (cr_setOf rfl hr.units) (by rfl) B.set (by decide +kernel) (pa_cons (pv 2) pa_nil)) pa_nil)) pa_nil))
        (pa_cons (pe_call GF hr1 (by rfl) eF.g eF.k bF .nil pass0 (pa_cons (pv 3) pa_nil)) pa_nil))))))), ?_⟩
    obtain ⟨dx, ep⟩ := U.ob
    have nd := nd.to fun k => (ic.2.2 k).trans (U.col.2.2 k).symm
    have nn : ∀ k ∈ ns', nameS (f k) = true := fun k hk => nn k ((ic.2.2 k).mpr ((U.col.2.2 k).mp hk))
    have ic := U.col
    obtain ⟨kvs, e1, e2, e3, e4, _⟩ := nd.ex ic.2.1
    have nsN : ns'.Nodup := ic.2.1
    have n8 : ns'.length ≤ 8 := by
      obtain ⟨pool, p1, p2⟩ := g.c.cols
      refine Nat.le_trans (nodup_le ns' pool nsN fun k hk => ?_) p1
      obtain ⟨c, hc, h⟩ := colsIn_mem.mp ((ic.2.2 k).mp hk)
      exact p2 c hc k h
    have fp : fromP ns' kvs = true := by
      unfold fromP tkeys
      rw [ded_nd nsN, decide_eq_true e2, Bool.true_and]
      exact List.all_eq_true.mpr fun k hk => by rw [e3 k hk]; rfl
    have dkd : ∀ H', H' d = some (.dK kvs) → Dk H' (.ref d) := fun H' e a kv' ea e' => by
      cases ea
      rw [e] at e'
      cases e'
      refine ⟨by omega, fun p hp => ?_⟩
      obtain ⟨k, _, rfl⟩ := e4 p hp
      exact ⟨k, rfl⟩
    refine ⟨.ref p, rfl, p, C, dx, _, _, rfl, ep, T.cl, T.n3, qFs_columns _ _ _ _, _, rfl, to, ns', .ref d, rfl, SqT.of U.tos, by omega, .dK e1, dkd _ e1, fun H1 s1 => ⟨_, rfl, ?_⟩⟩
    have fd1 : onDct H (fromP ns') (.ref d) = true := by
      simp only [onDct, e1]
      exact fp
    rw [fd1]
    refine if_neg_of rfl ?_
    have d1 := s1 _ _ e1
    refine ⟨_, rfl, .inr (.inr (.inl ⟨rfl, .inl ⟨kvs, d1⟩⟩)), d, kvs, rfl, rfl, d1, fun pv hpv => ⟨pv, d, kvs, rfl, upd_same, (K0.Same.new _ hpv) _ _ d1, fun t ht => ?_⟩⟩
    have vals : ∀ x ∈ kvs.map (·.2), ∃ k ∈ ns', x = V.str (f k) := fun x hx => by
      obtain ⟨pq, hp, rfl⟩ := List.mem_map.mp hx
      obtain ⟨k, hk, rfl⟩ := e4 pq hp
      exact ⟨k, hk, rfl⟩
    refine ⟨.ref t, rfl, .tup upd_same, fun b xs z1 z2 => ?_, fun H3 s4 => ⟨_, rfl, ?_⟩⟩
    · cases z1
      rw [upd_same] at z2
      cases z2
      refine ⟨by rw [List.length_map]; omega, fun x hx => ?_⟩
      obtain ⟨k, hk, rfl⟩ := vals x hx
      refine ⟨.str _, ?_⟩
      show (f k).length ≤ 1000
      have := nameS_len (nn k hk)
      omega
    have al : onTup (upd (upd H1 pv (ValO pv d)) t (.tup (kvs.map (·.2)))) (fun xs => xs.all nameV) (.ref t) = true := by
      simp only [onTup, upd_same]
      refine List.all_eq_true.mpr fun x hx => ?_
      obtain ⟨k, hk, rfl⟩ := vals x hx
      exact nn k hk
    have s3 : Same H H3 := K0.Same.tr s1 (K0.Same.tr (K0.Same.tr (K0.Same.new _ hpv) (K0.Same.new _ ht)) s4)
    rw [al]
    refine if_neg_of rfl ?_
    clear al vals s4 fd1 dkd fp
    have U3 := U.same s3
    have d3 := s3 _ _ e1
    have ep3 := s3 _ _ ep
    have get : ∀ {H' : Hp} {k : Str}, Same H3 H' → k ∈ ns' → DGet H' d (.str k) (some (.str (f k))) := fun s' hk => by
      rw [← e3 _ hk]
      exact DGet.k (k := Sum.inr _) (s' _ _ d3)
    have colk : ∀ c ∈ q.cls, ∀ k ∈ c.2, k ∈ ns' := fun c hc k hk => (ic.2.2 k).mpr (colsIn_mem.mpr ⟨c, hc, hk⟩)
    have lc0 : ts.length = q.cls.length := U.cls.len
    have few := g.c.few
    refine ⟨.ref p, rfl, p, C, dx, _, _, rfl, ep3, T.cl, T.n1, qFs_clauses _ _ _ _, tc, rfl, ⟨_, U3.tcs⟩, fun D hD => lc_made (walk_tup (K := K) (a := tc) (xs := ts.map V.ref)) (fun i y H' => ∃ t t2 c, y = V.ref t ∧ (q.cls.map (mapC f))[i]? = some c ∧ t ≠ D ∧ t2 ≠ D ∧ H' t = some (.tup [.str c.1, .ref t2]) ∧ H' t2 = some (.tup (c.2.map V.str)))
      (fun i y H1 H2 ⟨t, t2, c, e1, e2, n1, n2, h1, h2⟩ kd => ⟨t, t2, c, e1, e2, n1, n2, kd _ _ n1 h1, kd _ _ n2 h2⟩) (by rw [List.length_map, sizeLine_eq]; omega) hD (fun H1 s1 => seqT s1 U3.tcs) ?_ gPair_mono ?_⟩
    · rintro i x H4 H5 hi s4 ⟨acc, hacc⟩ ⟨rfl, hxi⟩
      have hi' : i < ts.length := by rwa [List.length_map] at hi
      obtain ⟨c, hc, t2, h1, h2⟩ := U3.cls.at_ i hi'
      have ex : x = V.ref ts[i] := by
        rw [List.getElem?_map, List.getElem?_eq_getElem hi'] at hxi
        exact (Option.some.inj hxi).symm
      subst ex
      have hcm : c ∈ q.cls := List.mem_of_getElem? hc
      have g1 := s4 _ _ h1
      have g2 := s4 _ _ h2
      refine ⟨ts[i], _, rfl, SqT.of g1, rfl, _, _, rfl, _, _, rfl, rfl, rfl, fun Q2 hQ2 => ⟨_, rfl, _, rfl, t2, rfl, ⟨_, SqT.of g2⟩, fun D2 hD2 => lc_pure (f := fun j => V.str (f (c.2.getD j Str.empty))) (walk_tup (K := K) (a := t2) (xs := c.2.map V.str)) (by rw [List.length_map, sizeLine_eq]; have := (g.c.wide c hcm).2; omega) hD2 (fun H6 s6 => SqT.of (s6 _ _ g2)) ?_ gName_mono ?_⟩⟩
      · rintro j y H6 H7 hj s6 ⟨rfl, hyj⟩
        rw [List.getElem?_map] at hyj
        obtain ⟨z, hz, rfl⟩ := Option.map_eq_some_iff.mp hyj
        have ez : c.2.getD j Str.empty = z := by simp [List.getD, hz]
        rw [ez]
        exact ⟨rfl, fun Q' hq => ⟨_, rfl, _, rfl, d, _, rfl, get (K0.Same.tr s4 s6) (colk c hcm z (List.mem_of_getElem? hz)), hq _ K0.Same.rfl'⟩⟩
      · intro H6 s6 hD6
        refine ⟨D2, _, rfl, .inl ⟨SqL.of hD6, fun t3 ht3 => ⟨by show 2 ≤ sizeLine; decide, fun t4 ht4 => ?_⟩⟩⟩
        have nD2 : D2 ≠ D := fun z => by rw [z, hacc] at hD2; cases hD2
        have a6 := s6 _ _ hacc
        have n3 : t3 ≠ D := fun z => by rw [z, a6] at ht3; cases ht3
        have a7 := (K0.Same.new (.tup ((List.range (c.2.map V.str).length).map fun j => V.str (f (c.2.getD j Str.empty)))) ht3) _ _ a6
        have n4 : t4 ≠ D := fun z => by rw [z, a7] at ht4; cases ht4
        have n43 : t3 ≠ t4 := fun z => by rw [z, upd_same] at ht4; cases ht4
        refine hQ2 _ _ (K0.Same.tr s6 (K0.Same.tr (K0.Same.new _ ht3) (K0.Same.new _ ht4))) ⟨t4, t3, mapC f c, rfl, by rw [List.getElem?_map, hc]; rfl, n4, n3, upd_same, ?_⟩
        rw [upd_ne n43, upd_same]
        refine congrArg (fun l => some (HO.tup l)) ?_
        show _ = (c.2.map f).map V.str
        rw [List.length_map, ← strs_map f c.2, List.map_map]
        rfl
    rintro H4 acc s4 hD4 hlen hR
    rw [List.length_map] at hlen
    obtain ⟨N, rfl, n2, n3⟩ := rows_made acc (q.cls.map (mapC f)) (by rw [List.length_map]; omega) hR
    rw [List.length_map] at hlen
    have askk : ∀ k ∈ q.asked, k ∈ ns' := fun k hk => (ic.2.2 k).mpr (g.ask k hk)
    have few2 := g.few
    refine ⟨.ref p, rfl, p, C, dx, _, _, rfl, s4 _ _ ep3, T.cl, T.n2, qFs_asked _ _ _ _, ta, rfl, ⟨_, SqT.of (s4 _ _ U3.tas)⟩, fun D2 hD2 => lc_pure (f := fun j => V.str (f (q.asked.getD j Str.empty))) (walk_tup (K := K) (a := ta) (xs := q.asked.map V.str)) (by rw [List.length_map, sizeLine_eq]; omega) hD2 (fun H6 s6 => SqT.of (s6 _ _ (s4 _ _ U3.tas))) ?_ gName_mono ?_⟩
    · rintro j y H6 H7 hj s6 ⟨rfl, hyj⟩
      rw [List.getElem?_map] at hyj
      obtain ⟨z, hz, rfl⟩ := Option.map_eq_some_iff.mp hyj
      have ez : q.asked.getD j Str.empty = z := by simp [List.getD, hz]
      rw [ez]
      exact ⟨rfl, fun Q' hq => ⟨_, rfl, _, rfl, d, _, rfl, get (K0.Same.tr s4 s6) (askk z (List.mem_of_getElem? hz)), hq _ K0.Same.rfl'⟩⟩
    intro H5 s5 hD5
    have ea : (List.range (q.asked.map V.str).length).map (fun j => V.str (f (q.asked.getD j Str.empty))) = (q.asked.map f).map V.str := by
      rw [List.length_map, ← strs_map f q.asked, List.map_map]
      rfl
    rw [ea] at hD5
    refine ⟨_, rfl, D, N, rfl, SqL.of (s5 _ _ hD4), fun m hm => ?_, by omega, fun S M hS sub all nd => ?_⟩
    · obtain ⟨c, e, h⟩ := n3 m hm
      have z := (h.same s5).kr (K := K)
      rw [← e] at z
      exact z
    have sS : Same H5 (upd H5 S (SetN w S M)) := K0.Same.new _ hS
    have mem : ∀ m ∈ M, ∃ c, m.2 = keyC c ∧ ClA H5 m.1 c := fun m hm => by
      obtain ⟨c, e, h⟩ := n3 m (sub m hm)
      exact ⟨c, e, h.same s5⟩
    refine ⟨S, M, 2, rfl, upd_same, fun m hm => ?_, lined_cls fun m hm => ?_, fun M' lq pm pw hq => ?_⟩
    · obtain ⟨c, e, h⟩ := mem m hm
      have z := (h.same sS).kr (K := K)
      rw [← e] at z
      exact z
    · obtain ⟨c, e, _⟩ := mem m hm
      exact ⟨c, e⟩
    have sQ : Same (upd H5 S (SetN w S M)) (upd (upd H5 S (SetN w S M)) lq (.lst (M'.map fun m => V.ref m.1))) := K0.Same.new _ hq
    obtain ⟨cs', r1, r2⟩ := rows_cls (H := H5) M' fun m hm => mem m (pm.mem_iff.mp hm)
    have srt : Srt cs' (q.cls.map (mapC f)) := by
      refine ⟨pair_map ?_, fun c => ?_⟩
      · rw [r2]
        exact List.pairwise_map.mpr pw
      · have key : keyC c ∈ cs'.map keyC ↔ keyC c ∈ (q.cls.map (mapC f)).map keyC := by
          rw [r2, ← n2, (pm.map (·.2)).mem_iff]
          constructor
          · intro z
            obtain ⟨m, hm, e⟩ := List.mem_map.mp z
            exact List.mem_map.mpr ⟨m, sub m hm, e⟩
          · intro z
            obtain ⟨m, hm, e⟩ := List.mem_map.mp z
            rw [← e]
            exact all m hm
        have inj : ∀ l : List CL, c ∈ l ↔ keyC c ∈ l.map keyC := fun l => ⟨fun z => List.mem_map.mpr ⟨c, z, rfl⟩, fun z => by
          obtain ⟨c', hc', e⟩ := List.mem_map.mp z
          rw [← keyC_inj e]
          exact hc'⟩
        rw [inj cs', inj (q.cls.map (mapC f))]
        exact key
    refine ⟨lq, _, rfl, .inl ⟨SqL.of upd_same, fun tq htq => ?_⟩⟩
    have sT := K0.Same.new (.tup (M'.map fun m => V.ref m.1)) htq
    have s5T := K0.Same.tr sS (K0.Same.tr sQ sT)
    refine ⟨_, rfl, D2, q.asked.map f, rfl, SqL.of (s5T _ _ hD5), by rw [List.length_map]; omega, fun tf H6 s6 htf etf => ?_⟩
    intro x dx2 nx ndx nex
    have s7 : Same H6 (upd (upd H6 dx2 (.own x)) x (.ins C dx2 [])) := fun c o e => by
      rw [upd_ne (ne_of_none e nx), upd_ne (ne_of_none e ndx)]
      exact e
    have s57 := K0.Same.tr s5T (K0.Same.tr s6 s7)
    have s07 := K0.Same.tr s3 (K0.Same.tr s4 (K0.Same.tr s5 (K0.Same.tr s5T s6)))
    have wf : WfQ ⟨cs', fo (q.asked.map f)⟩ := g.fold (fun k hk => nn k ((ic.2.2 k).mpr hk)) srt
    have etq : ∀ H' : Hp, upd H' tq (.tup (M'.map fun m => V.ref m.1)) tq = some (.tup ((M'.map (·.1)).map V.ref)) := fun H' => by rw [List.map_map]; exact upd_same
    refine ⟨x, dx2, tq, tf, M'.map (·.1), ⟨cs', fo (q.asked.map f)⟩, rfl, upd_same, SqT.of ((K0.Same.tr s6 s7) _ _ (etq _)), r1.same s57, s7 _ _ etf, wf.pre, fun _ H' tc' ta' to' td' ns2 e U' kd => ⟨rfl, ?_⟩, fun no => absurd wf no⟩
    have sx : Same H H' := fun c o e => by
      have e6 := s07 _ _ e
      have n1 := ne_of_none e6 nx
      refine kd c o n1 ?_
      rw [upd_ne n1, upd_ne (ne_of_none e6 ndx)]
      exact e6
    exact k x H' cs' sx srt ⟨tc', ta', to', td', _, ns2, U'⟩
end
end K0

/-! ## Y4 -/
set_option maxRecDepth 100000
set_option maxHeartbeats 8000000
namespace K0
open PySem L2 NS RZ
/-! ### methods of one's own -/
structure OwnM (P : Program) (w : World) (K : PySem.W.Frag) (mg : Str → Option Value) (base : Heap) (CX : CXT) (C : Addr) (n : Nat) (m x : Str) (sp : Sp) : Prop where
  ex : ∃ f fd, Meth K C m f ∧ FnOk P w K mg base CX n f fd ["self", x] sp ∧ Binds K fd ["self", x] []
section
variable {X : Cx} {CX : CXT} {C : Addr} {e : Expr} {ta : TE} {pos : Pos} {n : Nat} {f : Str} {sp : Sp} {E : XK}
theorem pe_ownM {pl : Sem Bool} {m x : Str} {o : Expr} {e : Expr} {t : L2.TA} {apos : Pos} (Z : OwnM X.prog X.w X.K X.mg X.base CX C n m x sp) (c : L2.Cls X.K C) (hr : Room n X.A) (hx : Passes CX X E) (he : PE X o ta) (ha : PA X [e] t)
    (hst : starEach [e] X.env = (false, eval e X.env) :: starEach [] X.env := by rfl) (hpl : (backTo pos (starEach [] X.env)).any (·.1) = false := by rfl)
    (ht : eval (.Call (.Attribute o m apos) [e] [] pos) X.env = (do
      let ov ← eval o X.env
      standAt apos.atName
      let (f, first) ← holding [ov] (getMethod ov m pl)
      callWith pos f first (backTo pos (starEach [e] X.env)) (backToKw pos (keywordEach [] X.env))) := by rfl) :
    PE X (.Call (.Attribute o m apos) [e] [] pos) (tMeth C m sp [] E ta t) := by
  obtain ⟨f, fd, hm, F, b⟩ := Z.ex
  exact pe_meth he c hm F hr b .nil hx ha hst hpl ht
end
/-! ### Question.renamed -/
def Inj (f : Str → Str) (ks : List Str) : Prop := ∀ x ∈ ks, ∀ y ∈ ks, f x = f y → x = y
def spRenamed (K : PySem.W.Frag) (C : Addr) : Sp := fun vs H Q _ => ∃ (p d : Addr) (q : PQ) (ns : List Str) (f : Str → Str), vs = [.ref p, .ref d] ∧ QuO K C H p q ∧ WfQ q ∧ IsCols (colsIn q.cls) ns ∧ NamD H d ns f ∧ (∀ k ∈ ns, nameS (f k) = true) ∧ Inj f ns ∧
  ∀ p' H' cs', Same H H' → Srt cs' (q.cls.map (mapC f)) → QuO K C H' p' ⟨cs', q.asked.map f⟩ → Q (.ref p') H'
theorem scRen : FnScope ["self", "names"] ["self", "names"] (defScope (sQ 16)) := ⟨rfl, rfl, rfl, by decide +kernel, rfl, by decide +kernel, by decide +kernel⟩
section
variable {P : Program} {w : World} {K : PySem.W.Frag} {mg : Str → Option Value} {base : Heap} {C CO fN : Addr} {fdN : FuncData}
theorem ok_renamed {f : Addr} {fd : FuncData} (F : Fun K "renamed" "Question.renamed" (sQ 16) f fd) (T : TQu K C)
    (eN : Gl K mg "is_naming" fN) (GN : FnOk P w K mg base (L2.CX P w) 3 fN fdN ["names", "value"] (spNaming CO)) (bN : Binds K fdN ["names", "value"] [])
    (Z : OwnM P w K mg base CX0 C 7 "folded" "names" (spFolded K C)) : FnOk P w K mg base CX0 8 f fd ["self", "names"] (spRenamed K C) := by
  refine F.ok scRen (fun vs H Q E h => ?_) (fun cdv A outer s H vs Q E hr h => ?_)
  · obtain ⟨p, d, q, ns, f, rfl, _⟩ := h
    rfl
  · obtain ⟨p, d, q, ns, f, rfl, qo, g, ic, nd, nn, inj, k⟩ := h
    have hr3 : Room 3 _ := hr.mono (by decide)
    refine ⟨_, pss_cons (ps_if (pt_not (pt_val (pe_call (E := fun _ _ _ => False) GN hr3 (by rfl) eN.g eN.k bN .nil passF (pa_cons (pe_fld (pv 0) rfl) (pa_cons (pv 1) pa_nil))))) (pss_one ps_never) pss_nil)
      (pss_one (ps_ret (pe_ownM Z T.cl hr pass0 (pv 0) (pa_cons (pv 1) pa_nil)))), ?_⟩
    obtain ⟨tc, ta, to, td, ts, ns', U⟩ := id qo
    obtain ⟨dx, ep⟩ := U.ob
    have nd' := nd.to fun k => (ic.2.2 k).trans (U.col.2.2 k).symm
    have mm : ∀ {k}, k ∈ ns' → k ∈ ns := fun hk => (ic.2.2 _).mpr ((U.col.2.2 _).mp hk)
    obtain ⟨kvs, e1, e2, e3, e4, e5⟩ := nd'.ex U.col.2.1
    have n8 : ns'.length ≤ 8 := by
      obtain ⟨pool, p1, p2⟩ := g.c.cols
      refine Nat.le_trans (nodup_le ns' pool U.col.2.1 fun k hk => ?_) p1
      obtain ⟨c, hc, h⟩ := colsIn_mem.mp ((U.col.2.2 k).mp hk)
      exact p2 c hc k h
    have nam : ∀ k ∈ ns', nameS k = true := fun k hk => by
      obtain ⟨c, hc, h⟩ := colsIn_mem.mp ((U.col.2.2 k).mp hk)
      exact g.c.nam c hc k h
    have al : onTup H (fun xs => xs.all nameV) (.ref to) = true := by
      simp only [onTup, U.tos]
      refine List.all_eq_true.mpr fun x hx => ?_
      obtain ⟨k, hk, rfl⟩ := List.mem_map.mp hx
      exact nam k hk
    have ks : ksOf H (.ref to) = ns' := by
      simp only [ksOf, U.tos]
      rw [List.map_map]
      exact List.map_id' ns'
    have np : onDct H (nmP ns') (.ref d) = true := by
      simp only [onDct, e1]
      unfold nmP fromP tkeys
      rw [ded_nd U.col.2.1, decide_eq_true e2, decide_eq_true (e5 fun x hx y hy => inj x (mm hx) y (mm hy))]
      simp only [Bool.true_and, Bool.and_true, Bool.and_eq_true]
      refine ⟨List.all_eq_true.mpr fun k hk => by rw [e3 k hk]; rfl, List.all_eq_true.mpr fun x hx => ?_⟩
      obtain ⟨pq, hp, rfl⟩ := List.mem_map.mp hx
      obtain ⟨k, hk, rfl⟩ := e4 pq hp
      exact nn k (mm hk)
    refine ⟨.ref p, rfl, p, C, dx, _, _, rfl, ep, T.cl, T.n3, qFs_columns _ _ _ _, _, rfl, .ref to, .ref d, rfl, .tup U.tos, fun b xs z1 z2 => ?_, .dK e1, fun b kv z1 z2 => ?_, fun b kv z1 z2 => ?_, fun _ H1 s1 => ?_, fun z => ?_⟩
    · cases z1
      rw [U.tos] at z2
      cases z2
      refine ⟨by rw [List.length_map]; omega, fun x hx => ?_⟩
      obtain ⟨k, hk, rfl⟩ := List.mem_map.mp hx
      refine ⟨.str _, ?_⟩
      show k.length ≤ 1000
      have := nameS_len (nam k hk)
      omega
    · cases z1
      rw [e1] at z2
      cases z2
      refine ⟨by omega, fun p hp => ?_⟩
      obtain ⟨k, _, rfl⟩ := e4 p hp
      exact ⟨k, rfl⟩
    · cases z1
      rw [e1] at z2
      cases z2
      intro p hp
      obtain ⟨k, hk, rfl⟩ := e4 p hp
      refine ⟨f k, rfl, ?_⟩
      have := nameS_len (nn k (mm hk))
      omega
    · rw [ks, np]
      refine ⟨_, rfl, if_neg_of rfl ?_⟩
      refine ⟨_, rfl, p, dx, _, rfl, s1 _ _ ep, qFs_no (by decide +kernel) (by decide +kernel) (by decide +kernel) (by decide +kernel), _, rfl, p, d, q, ns, f, rfl, qo.same s1, g, ic, nd.same s1, nn, fun p' H' cs' s' srt qo' => ?_⟩
      have ef : fo (q.asked.map f) = q.asked.map f := fo_inj g.nd fun x hx y hy => inj x ((ic.2.2 x).mpr (g.ask x hx)) y ((ic.2.2 y).mpr (g.ask y hy))
      rw [ef] at qo'
      exact k p' H' cs' (K0.Same.tr s1 s') srt qo'
    · rw [al] at z
      cases z
end
end K0

/-! ## Y5 -/
set_option maxRecDepth 100000
set_option maxHeartbeats 8000000
namespace K0
open PySem L2 NS RZ
/-! ### Question.with_clause -/
/-- a clause as it may stand in some question -/
structure GoodC (c : CL) : Prop where
  tab : nameS c.1 = true
  nam : ∀ k ∈ c.2, nameS k = true
  wide : 1 ≤ c.2.length ∧ c.2.length ≤ 8
theorem WfQ.clause {q : PQ} (g : WfQ q) {c : CL} (h : c ∈ q.cls) : GoodC c := ⟨g.c.tab c h, g.c.nam c h, g.c.wide c h⟩
/-- what comes of Question(clauses, asked) -/
def Made (K : PySem.W.Frag) (C CQ : Addr) (H : Hp) (Q : VK) (E : XK) (q : PQ) : Prop := (WfQ q → ∀ p' H', Same H H' → QuO K C H' p' q → Q (.ref p') H') ∧ (¬ WfQ q → ∀ H', Same H H' → E (.ref CQ) none H')
def spWith (K : PySem.W.Frag) (C CC CQ : Addr) : Sp := fun vs H Q E => ∃ (p t : Addr) (q : PQ) (c : CL), vs = [.ref p, .ref t] ∧ QuO K C H p q ∧ WfQ q ∧ ClA H t c ∧ GoodC c ∧
  (c ∈ q.cls → ∀ H', Same H H' → E (.ref CC) none H') ∧ (c ∉ q.cls → ∀ cs', Srt cs' (q.cls ++ [c]) → Made K C CQ H Q E ⟨cs', q.asked⟩)
theorem pre_more {q : PQ} (g : WfQ q) {L : List CL} (l16 : L.length ≤ 16) (hL : ∀ c ∈ L, GoodC c) {pool : List Str} (pl : pool.length < 64) (hp : ∀ c ∈ L, ∀ k ∈ c.2, k ∈ pool) {cs' : List CL} (s : Srt cs' L) {as : List Str} (nd : as.Nodup) (nam : ∀ k ∈ as, nameS k = true) (len : as.length ≤ 1000) : PreQ ⟨cs', as⟩ := by
  refine ⟨⟨⟨Nat.le_trans s.len l16, fun c hc => (hL c ((s.mem c).mp hc)).wide.2, pool, pl, fun k hk => ?_⟩, fun c hc => (hL c ((s.mem c).mp hc)).tab, fun c hc => (hL c ((s.mem c).mp hc)).nam, fun c hc => (hL c ((s.mem c).mp hc)).wide.1, s.up⟩, nd, nam, len⟩
  obtain ⟨c, hc, h⟩ := colsIn_mem.mp hk
  exact hp c ((s.mem c).mp hc) k h
theorem scWith : FnScope ["self", "clause"] ["self", "clause"] (defScope (sQ 13)) := ⟨rfl, rfl, rfl, by decide +kernel, rfl, by decide +kernel, by decide +kernel⟩
structure TWi (mg : Str → Option Value) : Prop where
  tup : mg "tuple" = none
  srt : mg "sorted" = none
section
variable {P : Program} {w : World} {K : PySem.W.Frag} {mg : Str → Option Value} {base : Heap} {C CC CQ fI fC : Addr} {fdI fdC : FuncData}
theorem ok_with {f : Addr} {fd : FuncData} (F : Fun K "with_clause" "Question.with_clause" (sQ 13) f fd) (T : TQu K C) (B : TWi mg) (XK0 : XV K mg "InvalidClause" CC) (gQ : mg "Question" = some (.ref C)) (M : Mk K C fI)
    (GI : FnOk P w K mg base (L2.CX P w) 5 fI fdI ["self", "clauses", "asked"] (spInit2 K C CQ)) (bI : Binds K fdI ["self", "clauses", "asked"] [])
    (eC : Gl K mg "is_clause" fC) (GC : FnOk P w K mg base CX0 3 fC fdC ["value"] (spIsCl K)) (bC : Binds K fdC ["value"] []) :
    FnOk P w K mg base (L2.CX P w) 7 f fd ["self", "clause"] (spWith K C CC CQ) := by
  refine F.okX scWith (fun vs H Q E h => ?_) (fun cdv A outer s H vs Q E hr h => ?_)
  · obtain ⟨p, t, q, c, rfl, _⟩ := h
    rfl
  · obtain ⟨p, t, q, c, rfl, qo, g, hc, gc, k1, k2⟩ := h
    have hr3 : Room 3 _ := hr.mono (by decide)
    have hu := hr.units
    have hu5 : (A.deeper (PyProof.Rows.envOfC (Str.ofString "Question.with_clause") (defScope (sQ 13)) s.heap.objs.size f cdv)).units + 65 < cLine := by
      have z := hr.un
      omega
    refine ⟨_, pss_cons (ps_if (PW.pt (pw_or (pt_not (pt_val (pe_call (E := E0) GC hr3 (by rfl) eC.g eC.k bC .nil pass0 (pa_cons (pv 1) pa_nil)))) (pw_or1 (pt_cmpR (op_inDT hu5) (pv 1) (pe_fld (pv 0) rfl) rfl))))
        (pss_one (ps_raise rfl (takes_of rfl rfl rfl rfl) (pmk_own PySem.F.excBase_ValueError XK0.xC XK0.gC XK0.kC (raises_own XK0.sB XK0.tC) rfl))) pss_nil)
      (pss_one (ps_ret (pe_make M GI hr (by rfl) gQ bI .nil (passes_call (takes_of rfl rfl rfl rfl) fun _ _ _ _ h => h) (pa_cons (pe_callTy (T := "tuple") call_tuple_of (by rfl) B.tup (by decide +kernel) (pa_cons (pe_callB (cr_sortList hu) (by rfl) B.srt (by decide +kernel) (pa_cons (pe_lst (StX.pa_star (pe_fld (pv 0) rfl) (pa_cons (pv 1) pa_nil))) pa_nil)) pa_nil))
        (pa_cons (pe_fld (pv 0) rfl) pa_nil))))), ?_⟩
    obtain ⟨tc, ta, to, td, ts, ns, U⟩ := id qo
    obtain ⟨dx, ep⟩ := U.ob
    refine ⟨_, rfl, .ref t, true, rfl, hc.clv gc.tab gc.nam gc.wide, fun H1 s1 => ⟨_, rfl, if_neg_of rfl ?_⟩⟩
    have U1 := U.same s1
    have ep1 := s1 _ _ ep
    refine ⟨.ref t, rfl, .ref p, rfl, p, C, dx, _, _, rfl, ep1, T.cl, T.n1, qFs_clauses _ _ _ _, dC c, _, (hc.same s1).dp, .tup U1.tcs U1.cls.dp, dC_shaped (nameS_ok gc.tab) (fun k hk => nameS_ok (gc.nam k hk)), dCs_shaped g.c.lay, ?_⟩
    rw [if_neg Bool.false_ne_true, any_dC]
    refine ⟨_, rfl, if_both (fun c1 => k1 (of_decide_eq_true c1) H1 s1) (fun c1 => ?_)⟩
    have nin := of_decide_eq_false c1
    have tl : ts.length = q.cls.length := U.cls.len
    have q8 := g.c.few
    refine ⟨.ref p, rfl, p, C, dx, _, _, rfl, ep1, T.cl, T.n1, qFs_clauses _ _ _ _, tc, _, rfl, .inl U1.tcs, _, rfl, ?_, fun l hl => ?_⟩
    · simp only [List.length_append, List.length_map, List.length_cons, List.length_nil]
      rw [sizeLine_eq]
      omega
    have sl := K0.Same.new (.lst (ts.map V.ref ++ [V.ref t])) hl
    have hcl : Cls H1 (ts ++ [t]) (q.cls ++ [c]) := Cls.snoc (hc.same s1) U1.cls
    have hcl2 := hcl.same sl
    obtain ⟨r1, r2, r3⟩ := rowsC_all hcl2
    refine ⟨l, rowsC (ts ++ [t]) (q.cls ++ [c]), 2, rfl, ?_, ?_, lined_cls fun m hm => (r3 m hm).imp fun c h => h.1, fun M' lp pm pw hp => ?_⟩
    · have e : (rowsC (ts ++ [t]) (q.cls ++ [c])).map (fun m => V.ref m.1) = ts.map V.ref ++ [V.ref t] := by
        have z := congrArg (List.map V.ref) r1
        rw [List.map_map, List.map_append] at z
        exact z
      rw [e]
      exact SqL.of upd_same
    · intro m hm
      obtain ⟨c, e, hA⟩ := r3 m hm
      have z := hA.kr (K := K)
      rw [← e] at z
      exact z
    have ndl : (q.cls ++ [c]).Nodup := List.nodup_append.mpr ⟨pair_nodup g.c.up, List.nodup_cons.mpr ⟨List.not_mem_nil, List.nodup_nil⟩, fun a ha b hb e => by
      rw [List.mem_singleton.mp hb] at e
      rw [e] at ha
      exact nin ha⟩
    obtain ⟨cs', hc', up, mm⟩ := sorted_cls hcl2 ndl pm pw
    have eM : M'.map (fun m => V.ref m.1) = (M'.map (·.1)).map V.ref := by rw [List.map_map]; rfl
    rw [eM]
    generalize M'.map (·.1) = ts' at hc' ⊢
    have sd := K0.Same.new (.lst (ts'.map V.ref)) hp
    refine ⟨lp, _, rfl, .inl ⟨SqL.of upd_same, fun tq htq => ?_⟩⟩
    have st := K0.Same.new (.tup (ts'.map V.ref)) htq
    have s1t := K0.Same.tr sl (K0.Same.tr sd st)
    refine ⟨.ref p, rfl, p, C, dx, _, _, rfl, s1t _ _ ep1, T.cl, T.n2, qFs_asked _ _ _ _, ?_⟩
    intro x dx2 nx ndx nex
    have srt : Srt cs' (q.cls ++ [c]) := ⟨up, mm⟩
    obtain ⟨m1, m2⟩ := k2 nin cs' srt
    obtain ⟨pool, p1, p2⟩ := g.c.cols
    have goods : ∀ d ∈ q.cls ++ [c], GoodC d := fun d hd => by
      rcases List.mem_append.mp hd with z | z
      · exact g.clause z
      · rw [List.mem_singleton.mp z]
        exact gc
    have pq : PreQ ⟨cs', q.asked⟩ := pre_more g (L := q.cls ++ [c]) (by simp only [List.length_append, List.length_cons, List.length_nil]; omega) goods (pool := pool ++ c.2) (by rw [List.length_append]; have := gc.wide.2; omega) (fun d hd k hk => by
      rcases List.mem_append.mp hd with z | z
      · exact List.mem_append_left _ (p2 d z k hk)
      · rw [List.mem_singleton.mp z] at hk
        exact List.mem_append_right _ hk) srt g.nd g.nam (Nat.le_trans g.few (by decide))
    have s7 : ∀ {H6 : Hp}, H6 x = none → H6 dx2 = none → Same H6 (upd (upd H6 dx2 (.own x)) x (.ins C dx2 [])) := fun n1 n2 c o e => by
      rw [upd_ne (ne_of_none e n1), upd_ne (ne_of_none e n2)]
      exact e
    have s7' := s7 nx ndx
    have sA := K0.Same.tr s1 s1t
    refine ⟨x, dx2, tq, ta, ts', ⟨cs', q.asked⟩, rfl, upd_same, SqT.of (s7' _ _ upd_same), (hc'.same (K0.Same.tr sd st)).same s7', s7' _ _ (s1t _ _ U1.tas), pq, fun wf H' tc' ta' to' td' ns2 e U' kd => ⟨rfl, ?_⟩, fun no H' s' => m2 no H' (K0.Same.tr sA (K0.Same.tr s7' s'))⟩
    refine m1 wf x H' (fun c o e => ?_) ⟨tc', ta', to', td', _, ns2, U'⟩
    have e6 := sA _ _ e
    have n1 := ne_of_none e6 nx
    refine kd c o n1 ?_
    rw [upd_ne n1, upd_ne (ne_of_none e6 ndx)]
    exact e6
end
end K0

/-! ## Y6 -/
set_option maxRecDepth 100000
set_option maxHeartbeats 4000000
namespace K0
open PySem L2 NS RZ
/-- a question whose tuple of clauses has no dict -/
def QuZ (K : PySem.W.Frag) (C : Addr) (H : Hp) (p : Addr) (q : PQ) : Prop := ∃ tc ta to td ts ns, QuA K C H p q tc ta to td ts ns ∧ ∃ o, H tc = some (.frz o (.tup (ts.map V.ref))) ∧ o.dict = none
theorem QuZ.o {K : PySem.W.Frag} {C : Addr} {H : Hp} {p : Addr} {q : PQ} (h : QuZ K C H p q) : QuO K C H p q := by
  obtain ⟨tc, ta, to, td, ts, ns, U, _⟩ := h
  exact ⟨tc, ta, to, td, ts, ns, U⟩
theorem QuZ.same {K : PySem.W.Frag} {C : Addr} {H H' : Hp} {p : Addr} {q : PQ} (h : QuZ K C H p q) (s : Same H H') : QuZ K C H' p q := by
  obtain ⟨tc, ta, to, td, ts, ns, U, o, e, d⟩ := h
  exact ⟨tc, ta, to, td, ts, ns, U.same s, o, s _ _ e, d⟩
def spMadeZ (K : PySem.W.Frag) (C : Addr) : Sp := fun vs H Q _ => ∃ (d : Addr) (q : PQ), vs = [.ref d] ∧ PlA H d q ∧ WfQ q ∧ ∀ p H', Same H H' → H p = none → QuZ K C H' p q → Q (.ref p) H'
section
variable {P : Program} {w : World} {K : PySem.W.Frag} {mg : Str → Option Value} {base : Heap} {C CQ fI : Addr} {fdI : FuncData}
theorem ok_madeZ {f : Addr} {fd : FuncData} (F : Fun K "_law_made" "_law_made" sMade f fd) (tup : mg "tuple" = none) (gQ : mg "Question" = some (.ref C)) (M : Mk K C fI)
    (GI : FnOk P w K mg base (L2.CX P w) 5 fI fdI ["self", "clauses", "asked"] (spInit2 K C CQ)) (bI : Binds K fdI ["self", "clauses", "asked"] []) : FnOk P w K mg base CX0 7 f fd ["_law_plain"] (spMadeZ K C) := by
  refine F.ok scMade (fun vs H Q E h => ?_) (fun cdv A outer s H vs Q E hr h => ?_)
  · obtain ⟨d, q, rfl, _⟩ := h
    rfl
  · obtain ⟨d, q, rfl, ⟨lc, la, ts, h1, h2, h3, h4⟩, g, k⟩ := h
    refine ⟨_, pss_one (ps_ret (pe_make (E := fun _ _ _ => False) M GI hr (by rfl) gQ bI .nil passF (pa_cons (pe_callTy (T := "tuple") call_tupF (by rfl) tup (by decide +kernel) (pa_cons (pe_dget (lt1 hr.units) (pv 0) pe_str (fun _ _ => rfl)) pa_nil))
      (pa_cons (pe_callTy (T := "tuple") call_tuple_of (by rfl) tup (by decide +kernel) (pa_cons (pe_dget (lt1 hr.units) (pv 0) pe_str (fun _ _ => rfl)) pa_nil)) pa_nil)))), ?_⟩
    refine ⟨_, rfl, d, V.ref lc, rfl, DGet.k (k := Sum.inr "clauses") h1, lc, _, rfl, SqL.of h2, fun tc o htc od => ?_⟩
    have s1 := K0.Same.new (.frz o (.tup (ts.map V.ref))) htc
    refine ⟨_, rfl, d, V.ref la, rfl, DGet.k (k := Sum.inr "asked") (s1 _ _ h1), la, _, rfl, .inl ⟨SqL.of (s1 _ _ h4), fun ta hta => ?_⟩⟩
    have s2 := K0.Same.new (.tup (q.asked.map V.str)) hta
    have s02 := K0.Same.tr s1 s2
    have etc := s2 _ _ (upd_same (H := H) (a := tc) (o := .frz o (.tup (ts.map V.ref))))
    intro x dx nx ndx nex
    have s3 : Same (upd (upd H tc (.frz o (.tup (ts.map V.ref)))) ta (.tup (q.asked.map V.str))) (upd (upd (upd (upd H tc (.frz o (.tup (ts.map V.ref)))) ta (.tup (q.asked.map V.str))) dx (.own x)) x (.ins C dx [])) := fun c o e => by
      rw [upd_ne (ne_of_none e nx), upd_ne (ne_of_none e ndx)]
      exact e
    have s03 := K0.Same.tr s02 s3
    have xtc : tc ≠ x := ne_of_none etc nx
    refine ⟨x, dx, tc, ta, ts, q, rfl, upd_same, .inl (.inr ⟨o, s3 _ _ etc⟩), h3.same s03, s3 _ _ upd_same, g.pre, fun _ H' tc' ta' to' td' ns' e U' kd => ⟨rfl, ?_⟩, fun no => absurd g no⟩
    have sx : Same (upd (upd H tc (.frz o (.tup (ts.map V.ref)))) ta (.tup (q.asked.map V.str))) H' := fun c o e => by
      have n1 := ne_of_none e nx
      refine kd c o n1 ?_
      rw [upd_ne n1, upd_ne (ne_of_none e ndx)]
      exact e
    subst e
    exact k x H' (K0.Same.tr s02 sx) (none_same s02 nx) ⟨tc', ta', to', td', ts, ns', U', o, kd _ _ xtc (s3 _ _ etc), od⟩
end
/-! ### Question.index, which may be refused -/
def spIndexX (K : PySem.W.Frag) (C CC : Addr) : Sp := fun vs H Q E => ∃ (p t : Addr) (q : PQ) (c : CL) (tc ta to td : Addr) (ts : List Addr) (ns : List Str), vs = [.ref p, .ref t] ∧ QuA K C H p q tc ta to td ts ns ∧ WfC q.cls ∧ TupZ H tc ∧ ClA H t c ∧ GoodC c ∧
  (∀ j : Nat, q.cls[j]? = some c → Q (.int (j : Nat)) H) ∧ (c ∉ q.cls → E (.ref CC) none H)
theorem scM11 : FnScope ["self", "clause"] ["self", "clause"] (defScope (sQ 11)) := ⟨rfl, rfl, rfl, by decide +kernel, rfl, by decide +kernel, by decide +kernel⟩
theorem up_nodup {cs : List CL} (h : cs.Pairwise fun c c' => ltC c c' = true) {i j : Nat} {c : CL} (hi : cs[i]? = some c) (hj : cs[j]? = some c) : i = j := by
  obtain ⟨li, ei⟩ := List.getElem?_eq_some_iff.mp hi
  obtain ⟨lj, ej⟩ := List.getElem?_eq_some_iff.mp hj
  rcases Nat.lt_trichotomy i j with q | q | q
  · have z := List.pairwise_iff_getElem.mp h i j li lj q
    rw [ei, ej, ltC_irr] at z
    cases z
  · exact q
  · have z := List.pairwise_iff_getElem.mp h j i lj li q
    rw [ei, ej, ltC_irr] at z
    cases z
section
variable {P : Program} {w : World} {K : PySem.W.Frag} {mg : Str → Option Value} {base : Heap} {C CC : Addr}
theorem ok_mIndexX {f : Addr} {fd : FuncData} (F : Fun K "index" "Question.index" (sQ 11) f fd) (T : TQu K C) (XK0 : XV K mg "InvalidClause" CC) : FnOk P w K mg base (L2.CX P w) 1 f fd ["self", "clause"] (spIndexX K C CC) := by
  refine F.okX scM11 (fun vs H Q E h => ?_) (fun cdv A outer s H vs Q E hr h => ?_)
  · obtain ⟨p, t, q, c, tc, ta, to, td, ts, ns, rfl, _⟩ := h
    rfl
  · obtain ⟨p, t, q, c, tc, ta, to, td, ts, ns, rfl, U, g, tz, hc, gc, k1, k2⟩ := h
    obtain ⟨dx, ep⟩ := U.ob
    have hu : ∀ {A : Around}, Room 0 A → A.units + 65 < cLine := fun r => by have := r.un; omega
    refine ⟨_, pss_cons (ps_if (pt_cmpR (op_notInDT (hu hr)) (pv 1) (pe_fld (pv 0) rfl) rfl) (pss_one (ps_raise rfl (takes_of rfl rfl rfl rfl) (pmk_own PySem.F.excBase_ValueError XK0.xC XK0.gC XK0.kC (raises_own XK0.sB XK0.tC) rfl))) pss_nil)
      (pss_one (ps_ret (pe_bmZ PySem.F.plainAttrs_tuple PySem.F.slot_tuple_index PySem.F.type_tuple_index (mt_tindexD (hu hr)) (pe_fld (pv 0) rfl) (pa_cons (pv 1) pa_nil)))), ?_⟩
    have sc : SeqAt.shaped (dC c) = true := dC_shaped (nameS_ok gc.tab) fun k hk => nameS_ok (gc.nam k hk)
    have scs : SeqAt.shaped (.tuple (q.cls.map dC)) = true := dCs_shaped g.lay
    refine ⟨_, rfl, .ref p, rfl, p, C, dx, _, _, rfl, ep, T.cl, T.n1, qFs_clauses _ _ _ _, dC c, q.cls.map dC, hc.dp, .tup (U.tcs) U.cls.dp, sc, scs, _, rfl, ?_⟩
    rw [if_pos rfl, any_dC]
    by_cases cm : c ∈ q.cls
    · obtain ⟨j, lj, ej⟩ := List.getElem_of_mem cm
      have hj : q.cls[j]? = some c := by rw [List.getElem?_eq_getElem lj, ej]
      rw [decide_eq_true cm]
      refine if_neg_of rfl ⟨.ref p, rfl, p, C, dx, _, _, rfl, ep, T.cl, T.n1, qFs_clauses _ _ _ _, ⟨tc, rfl, tz⟩, _, rfl, tc, _, dC c, q.cls.map dC, j, dC c, rfl, rfl, .tup (U.tcs) U.cls.dp, hc.dp, scs, sc, by rw [List.getElem?_map, hj]; rfl, by rw [dC_eqv]; exact decide_eq_true rfl, fun m z' hm hz' => ?_, k1 j hj⟩
      rw [List.getElem?_map] at hz'
      obtain ⟨c', hc', rfl⟩ := Option.map_eq_some_iff.mp hz'
      rw [dC_eqv]
      refine decide_eq_false fun e => ?_
      rw [e] at hc'
      have := up_nodup g.up hc' hj
      omega
    · rw [decide_eq_false cm]
      exact if_pos_of rfl (k2 cm)
end
end K0

/-! ## Y7 -/
set_option maxRecDepth 100000
set_option maxHeartbeats 8000000
namespace K0
open PySem L2 NS RZ
/-! ### Question.without_clause -/
theorem cutV_drop (xs : List V) (k : Nat) : cutV xs (some (k : Int)) none = xs.drop k := by
  unfold cutV
  have z : HT.sIx xs.length 0 (some (k : Int)) = min k xs.length := HT.sIx_nat _ _ k
  rw [z, HT.sIx_none]
  rcases Nat.le_total k xs.length with h | h
  · rw [Nat.min_eq_left h]
    exact List.take_of_length_le (by rw [List.length_drop]; omega)
  · rw [Nat.min_eq_right h, List.drop_of_length_le h, List.drop_of_length_le (Nat.le_refl _), List.take_nil]
theorem cut_take (xs : List V) (r : Int) (h0 : 0 ≤ r) (h1 : r ≤ xs.length) : cutV xs none (some r) = xs.take r.toNat := by
  obtain ⟨k, rfl⟩ := Int.eq_ofNat_of_zero_le h0
  unfold cutV
  have z : HT.sIx xs.length xs.length (some (k : Int)) = min k xs.length := HT.sIx_nat _ _ k
  rw [z, HT.sIx_none, List.drop_zero, Nat.sub_zero, Nat.min_eq_left (by omega)]
  rfl
theorem cut_drop (xs : List V) (r : Int) (h0 : 0 ≤ r) : cutV xs (some r) none = xs.drop r.toNat := by
  obtain ⟨k, rfl⟩ := Int.eq_ofNat_of_zero_le h0
  exact cutV_drop xs k
def less (cs : List CL) (j : Nat) : List CL := cs.take j ++ cs.drop (j + 1)
theorem less_mem {cs : List CL} (nd : cs.Nodup) {j : Nat} {c : CL} (h : cs[j]? = some c) (d : CL) : d ∈ less cs j ↔ d ∈ cs ∧ d ≠ c := by
  obtain ⟨lj, ej⟩ := List.getElem?_eq_some_iff.mp h
  have e : cs = cs.take j ++ c :: cs.drop (j + 1) := by
    rw [← ej, ← List.drop_eq_getElem_cons lj, List.take_append_drop]
  have nd2 := nd
  rw [e] at nd2
  obtain ⟨n1, n2, n3⟩ := List.nodup_append.mp nd2
  obtain ⟨n4, n5⟩ := List.nodup_cons.mp n2
  unfold less
  constructor
  · intro m
    refine ⟨by rw [e]; exact (List.mem_append.mp m).elim (fun z => List.mem_append_left _ z) (fun z => List.mem_append_right _ (List.mem_cons_of_mem _ z)), fun z => ?_⟩
    subst z
    rcases List.mem_append.mp m with m | m
    · exact n3 d m d List.mem_cons_self rfl
    · exact n4 m
  · rintro ⟨m, ne⟩
    rw [e] at m
    rcases List.mem_append.mp m with m | m
    · exact List.mem_append_left _ m
    · rcases List.mem_cons.mp m with m | m
      · exact absurd m ne
      · exact List.mem_append_right _ m
theorem less_up {cs : List CL} (up : cs.Pairwise fun c c' => ltC c c' = true) (j : Nat) : (less cs j).Pairwise fun c c' => ltC c c' = true := by
  have z : (less cs j).Sublist cs := by
    unfold less
    have y := (List.Sublist.refl (cs.take j)).append (List.drop_sublist 1 (cs.drop j))
    rw [List.drop_drop, List.take_append_drop] at y
    exact y
  exact up.sublist z
theorem cls_take {H : Hp} : ∀ {ts : List Addr} {cs : List CL} (j : Nat), Cls H ts cs → Cls H (ts.take j) (cs.take j)
  | _, _, 0, _ => by rw [List.take_zero, List.take_zero]; exact .nil
  | _, _, _ + 1, .nil => .nil
  | _, _, j + 1, .cons h r => .cons h (cls_take j r)
theorem cls_drop {H : Hp} : ∀ {ts : List Addr} {cs : List CL} (j : Nat), Cls H ts cs → Cls H (ts.drop j) (cs.drop j)
  | _, _, 0, h => h
  | _, _, _ + 1, .nil => .nil
  | _, _, j + 1, .cons h r => cls_drop j r
theorem cls_app {H : Hp} : ∀ {ts us : List Addr} {cs ds : List CL}, Cls H ts cs → Cls H us ds → Cls H (ts ++ us) (cs ++ ds)
  | _, _, _, _, .nil, h => h
  | _, _, _, _, .cons h r, h2 => .cons h (cls_app r h2)
theorem sieve_filter (p : Str → Bool) (l : List Str) : ((List.range l.length).filter fun i => p (l.getD i Str.empty)).map (fun i => l.getD i Str.empty) = l.filter p := by
  have z := strs_map id l
  simp only [List.map_id, id] at z
  conv => rhs; rw [← z]
  rw [List.filter_map]
  rfl
/-- the asked columns that are left -/
def leftA (q : PQ) (cs : List CL) : List Str := q.asked.filter fun k => decide (k ∈ colsIn cs)
def spWithout (K : PySem.W.Frag) (C CC CQ : Addr) : Sp := fun vs H Q E => ∃ (p t : Addr) (q : PQ) (c : CL), vs = [.ref p, .ref t] ∧ QuZ K C H p q ∧ WfQ q ∧ ClA H t c ∧ GoodC c ∧
  (c ∉ q.cls → E (.ref CC) none H) ∧ (∀ j : Nat, q.cls[j]? = some c → Made K C CQ H Q E ⟨less q.cls j, leftA q (less q.cls j)⟩)
abbrev nWo : List Str := ["self", "clause", "at", "clauses", "left", "column"]
theorem scWo : FnScope nWo ["self", "clause"] (defScope (sQ 14)) := ⟨rfl, rfl, rfl, by decide +kernel, rfl, by decide +kernel, by decide +kernel⟩
section
variable {P : Program} {w : World} {K : PySem.W.Frag} {mg : Str → Option Value} {base : Heap} {C CC CQ fI fO : Addr} {fdI fdO : FuncData}
theorem ok_without {f : Addr} {fd : FuncData} (F : Fun K "without_clause" "Question.without_clause" (sQ 14) f fd) (T : TQu K C) (tup : mg "tuple" = none) (gQ : mg "Question" = some (.ref C)) (M : Mk K C fI)
    (GI : FnOk P w K mg base (L2.CX P w) 5 fI fdI ["self", "clauses", "asked"] (spInit2 K C CQ)) (bI : Binds K fdI ["self", "clauses", "asked"] [])
    (Z : OwnM P w K mg base (L2.CX P w) C 1 "index" "clause" (spIndexX K C CC))
    (eO : Gl K mg "_columns_of" fO) (GO : FnOk P w K mg base CX0 1 fO fdO ["clauses"] (spColsOf2 K)) (bO : Binds K fdO ["clauses"] []) :
    FnOk P w K mg base (L2.CX P w) 7 f fd ["self", "clause"] (spWithout K C CC CQ) := by
  refine F.okX scWo (fun vs H Q E h => ?_) (fun cdv A outer s H vs Q E hr h => ?_)
  · obtain ⟨p, t, q, c, rfl, _⟩ := h
    rfl
  · obtain ⟨p, t, q, c, rfl, qo, g, hc, gc, k1, k2⟩ := h
    have hr1 : Room 1 _ := hr.mono (by decide)
    refine ⟨_, pss_cons (ps_set (i := 2) scWo.nd rfl (Or.inl rfl) (pe_ownM Z T.cl hr1 (passes_call (takes_of rfl rfl rfl rfl) fun _ _ _ _ h => h) (pv 0) (pa_cons (pv 1) pa_nil)))
      (C8.pss_cut (ps_set (i := 3) scWo.nd rfl (Or.inl rfl) (pe_op op_catA (pe_slice sl_tup (pe_fld (pv 0) rfl) po_none (po_some (pv 2))) (pe_slice sl_tup (pe_fld (pv 0) rfl) (po_some (pe_op op_add (pv 2) pe_int)) po_none)))
      (pss_cons (ps_set (i := 4) scWo.nd rfl (Or.inr rfl) (pe_call (E := E0) GO hr1 (by rfl) eO.g eO.k bO .nil pass0 (pa_cons (pv 3) pa_nil)))
      (pss_one (ps_ret (pe_make M GI hr (by rfl) gQ bI .nil (passes_call (takes_of rfl rfl rfl rfl) fun _ _ _ _ h => h) (pa_cons (pv 3) (pa_cons (pe_callTy (T := "tuple") call_tuple_of (by rfl) tup (by decide +kernel) (pa_cons
        (pe_lc (own := [("column", 5)]) (g := gName 5) (tt := tTest (tOp (rIn K false) (tVar 5) (tVar 4))) (te := tVar 5) rfl scWo.nd (pi_tup (pe_fld (pv 0) rfl)) (blkOk_by (own := [("column", 5)]) (N := nWo) (sc := defScope (sQ 14)) (by decide +kernel))
          (fun _ _ _ _ _ => pg_name (i := 5) scWo.nd rfl (Or.inl rfl)) (fun _ _ _ _ _ => pts_one (pt_cmpR (r := rIn K false) op_in_seq (pv 5) (pv 4) rfl)) (fun _ _ _ _ _ => pv 5)) pa_nil)) pa_nil))))))), ?_⟩
    obtain ⟨tc, ta, to, td, ts, ns, U, o, etc, od⟩ := id qo
    obtain ⟨dx, ep⟩ := U.ob
    refine ⟨_, rfl, p, dx, _, rfl, ep, qFs_no (by decide +kernel) (by decide +kernel) (by decide +kernel) (by decide +kernel), _, rfl, p, t, q, c, tc, ta, to, td, ts, ns, rfl, U, g.c, ⟨o, _, etc, od⟩, hc, gc, fun j hj => ?_, k1⟩
    obtain ⟨lj, ej⟩ := List.getElem?_eq_some_iff.mp hj
    have tl : ts.length = q.cls.length := U.cls.len
    have q8 := g.c.few
    obtain ⟨m1, m2⟩ := k2 j hj
    have tlj : j < (ts.map V.ref).length := by rw [List.length_map]; omega
    have lcs : Cls H ((ts.take j) ++ ts.drop (j + 1)) (less q.cls j) := cls_app (cls_take j U.cls) (cls_drop (j + 1) U.cls)
    refine ⟨fun σ H' => ∃ u : Addr, σ = [some (.ref p), some (.ref t), some (.int (j : Nat)), some (.ref u), none, none] ∧ Same H H' ∧ SqT K H' u ((ts.take j ++ ts.drop (j + 1)).map V.ref), ?_, ?_⟩
    · refine ⟨.ref p, rfl, p, C, dx, _, _, rfl, ep, T.cl, T.n1, qFs_clauses _ _ _ _, _, rfl, (j : Int), rfl, tc, _, rfl, U.tcs, ?_, fun a ha => ?_⟩
      · rintro ⟨_, z⟩
        rw [HT.sIx_nat] at z
        omega
      have s1 := K0.Same.new (.tup (cutV (ts.map V.ref) none (some (j : Int)))) ha
      have U1 := U.same s1
      refine ⟨.ref p, rfl, p, C, dx, _, _, rfl, s1 _ _ ep, T.cl, T.n1, qFs_clauses _ _ _ _, _, rfl, _, _, rfl, rfl, _, rfl, tc, _, rfl, U1.tcs, ?_, fun b hb => ?_⟩
      · rintro ⟨z, _⟩
        have e : ((j : Int) + 1) = ((j + 1 : Nat) : Int) := rfl
        rw [e, HT.sIx_nat] at z
        omega
      have s2 := K0.Same.new (.tup (cutV (ts.map V.ref) (some ((j : Int) + 1)) none)) hb
      have s12 := K0.Same.tr s1 s2
      have ca : cutV (ts.map V.ref) none (some (j : Int)) = (ts.take j).map V.ref := by
        rw [cut_take _ _ (by omega) (by omega), List.map_take]
        rfl
      have cb : cutV (ts.map V.ref) (some ((j : Int) + 1)) none = (ts.drop (j + 1)).map V.ref := by
        rw [show ((j : Int) + 1) = ((j + 1 : Nat) : Int) from rfl, cutV_drop, List.map_drop]
      refine ⟨a, b, (ts.take j).map V.ref, (ts.drop (j + 1)).map V.ref, rfl, rfl, SqT.of (by rw [← ca]; exact s2 _ _ upd_same), SqT.of (by rw [← cb]; exact upd_same), ?_, fun z => ?_, fun _ z => ?_, fun _ _ u hu => ?_⟩
      · rw [List.length_map, List.length_map, List.length_take, List.length_drop, sizeLine_eq]
        omega
      · refine ⟨b, rfl, s12, ?_⟩
        rw [List.map_append, z, List.nil_append]
        exact SqT.of (by rw [← cb]; exact upd_same)
      · refine ⟨a, rfl, s12, ?_⟩
        rw [List.map_append, z, List.append_nil]
        exact SqT.of (by rw [← ca]; exact s2 _ _ upd_same)
      · refine ⟨u, rfl, K0.Same.tr s12 (K0.Same.new _ hu), ?_⟩
        rw [List.map_append]
        exact SqT.of upd_same
    rintro σ H1 ⟨u, rfl, s1, hu⟩
    have lcs1 := lcs.same s1
    have U1 := U.same s1
    have ep1 := s1 _ _ ep
    have nd := pair_nodup g.c.up
    have mem := less_mem nd hj
    have goods : ∀ d ∈ less q.cls j, GoodC d := fun d hd => g.clause ((mem d).mp hd).1
    obtain ⟨pool, p1, p2⟩ := g.c.cols
    have inpool : ∀ d ∈ less q.cls j, ∀ k ∈ d.2, k ∈ pool := fun d hd k hk => p2 d ((mem d).mp hd).1 k hk
    have srt : Srt (less q.cls j) (less q.cls j) := ⟨less_up g.c.up j, fun _ => Iff.rfl⟩
    have l16 : (less q.cls j).length ≤ 16 := by
      unfold less
      rw [List.length_append, List.length_take, List.length_drop]
      omega
    have few2 := g.few
    have la : (leftA q (less q.cls j)).length ≤ 8 := Nat.le_trans (List.length_filter_le _ _) few2
    have pq : PreQ ⟨less q.cls j, leftA q (less q.cls j)⟩ := pre_more g l16 goods (pool := pool) (by omega) inpool srt (g.nd.sublist List.filter_sublist) (fun k hk => g.nam k (List.mem_filter.mp hk).1) (by omega)
    refine ⟨_, rfl, u, _, less q.cls j, rfl, hu, lcs1, pq.c.toSmol, fun ns2 tl2 H2 ic2 s2 htl etl => ?_⟩
    have U2 := U1.same s2
    refine ⟨_, rfl, .ref p, rfl, p, C, dx, _, _, rfl, s2 _ _ ep1, T.cl, T.n2, qFs_asked _ _ _ _, ta, rfl, ⟨_, SqT.of U2.tas⟩, fun D hD => lc_sieve (walk_tup (K := K) (a := ta) (xs := q.asked.map V.str)) (fun i => decide (q.asked.getD i Str.empty ∈ colsIn (less q.cls j))) (fun i => V.str (q.asked.getD i Str.empty)) (by rw [List.length_map, sizeLine_eq]; omega) hD (fun H6 s6 => SqT.of (s6 _ _ U2.tas)) ?_ gName_mono ?_⟩
    · rintro i y H6 H7 hi s6 ⟨rfl, hyi⟩
      rw [List.getElem?_map] at hyi
      obtain ⟨z, hz, rfl⟩ := Option.map_eq_some_iff.mp hyi
      have ez : q.asked.getD i Str.empty = z := by simp [List.getD, hz]
      rw [ez]
      refine ⟨rfl, fun Q' hq => ?_, fun _ Q' H8 s8 hq => ⟨_, rfl, hq H8 s8⟩⟩
      refine ⟨_, rfl, _, rfl, tl2, _, rfl, .inr (SqT.of (s6 _ _ etl)), rfl, flat_strs ns2, _, rfl, ?_⟩
      rw [if_neg Bool.false_ne_true, inV_strs]
      have e : decide (z ∈ ns2) = decide (z ∈ colsIn (less q.cls j)) := decide_eq_decide.mpr (ic2.2.2 z)
      rw [e]
      exact hq _ K0.Same.rfl'
    intro H3 s3 hD3
    have eA : ((List.range (q.asked.map V.str).length).filter fun i => decide (q.asked.getD i Str.empty ∈ colsIn (less q.cls j))).map (fun i => V.str (q.asked.getD i Str.empty)) = (leftA q (less q.cls j)).map V.str := by
      unfold leftA
      rw [List.length_map, ← sieve_filter (fun k => decide (k ∈ colsIn (less q.cls j))) q.asked, List.map_map]
      rfl
    rw [eA] at hD3
    refine ⟨D, _, rfl, .inl ⟨SqL.of hD3, fun tf htf => ?_⟩⟩
    have sf := K0.Same.new (.tup ((leftA q (less q.cls j)).map V.str)) htf
    intro x dx2 nx ndx nex
    have s13 := K0.Same.tr s2 (K0.Same.tr s3 sf)
    have sA := K0.Same.tr s1 s13
    have s7 : ∀ {H6 : Hp}, H6 x = none → H6 dx2 = none → Same H6 (upd (upd H6 dx2 (.own x)) x (.ins C dx2 [])) := fun n1 n2 c o e => by
      rw [upd_ne (ne_of_none e n1), upd_ne (ne_of_none e n2)]
      exact e
    have s7' := s7 nx ndx
    refine ⟨x, dx2, u, tf, _, ⟨less q.cls j, leftA q (less q.cls j)⟩, rfl, upd_same, seqT (K0.Same.tr s13 s7') hu, (lcs1.same s13).same s7', s7' _ _ upd_same, pq, fun wf H' tc' ta' to' td' ns3 e U' kd => ⟨rfl, ?_⟩, fun no H' s' => m2 no H' (K0.Same.tr sA (K0.Same.tr s7' s'))⟩
    refine m1 wf x H' (fun c o e => ?_) ⟨tc', ta', to', td', _, ns3, U'⟩
    have e6 := sA _ _ e
    have n1 := ne_of_none e6 nx
    refine kd c o n1 ?_
    rw [upd_ne n1, upd_ne (ne_of_none e6 ndx)]
    exact e6
end
end K0

/-! ## Y8 -/
set_option maxRecDepth 100000
set_option maxHeartbeats 8000000
namespace K0
open PySem L2 NS RZ
/-! ### Question.asking -/
theorem cxNew {P : Program} {w : World} : CXNew (L2.CX P w) := fun outer s H h2 p rest E e s' kp hp hn c => StX.cxUp outer s H { s with heap := h2 } _ E e s' (Un.laid kp hp hn) kp rfl c
def AskG (q : PQ) (as : List Str) : Prop := as.Nodup ∧ (∀ k ∈ as, k ∈ colsIn q.cls) ∧ as.length ≤ 3
theorem AskG.wf {q : PQ} {as : List Str} (g : WfQ q) (h : AskG q as) : WfQ ⟨q.cls, as⟩ := ⟨g.c, h.1, h.2.1⟩
def spAskQ (K : PySem.W.Frag) (C : Addr) : Sp := fun vs H Q _ => ∃ (p : Addr) (q : PQ) (as : List Str), vs = .ref p :: as.map V.str ∧ QuO K C H p q ∧ WfQ q ∧ AskG q as ∧ ∀ p' H', Same H H' → QuO K C H' p' ⟨q.cls, as⟩ → Q (.ref p') H'
def spAskQB (K : PySem.W.Frag) (C : Addr) : Sp := fun vs H Q _ => ∃ (p t : Addr) (q : PQ) (as : List Str), vs = [.ref p, .ref t] ∧ H t = some (.tup (as.map V.str)) ∧ QuO K C H p q ∧ WfQ q ∧ AskG q as ∧ ∀ p' H', Same H H' → QuO K C H' p' ⟨q.cls, as⟩ → Q (.ref p') H'
abbrev nAskM : List Str := ["self", "columns", "column"]
theorem scAskM : FnScope nAskM ["self", "columns"] (defScope (sQ 15)) := ⟨rfl, rfl, rfl, by decide +kernel, rfl, by decide +kernel, by decide +kernel⟩
theorem bind_asking {kV doc pm cdv ct : Value} {an : Option Addr} : ∀ (u : Value) (rest : List Value), rest.length ≤ 3 → bindArgs (PySem.W.fnOf "asking" "Question.asking" (defArgs (sQ 15)) (defBody (sQ 15)) (defScope (sQ 15)) Value.none kV doc pm an cdv ct) ⟨u :: rest, []⟩ = (newTuple rest >>= fun t => pure [(("self" : Str), u), (("columns" : Str), t)])
  | u, [], _ => by first | rfl | with_unfolding_all rfl | kernel_rfl
  | u, [a], _ => by first | rfl | with_unfolding_all rfl | kernel_rfl
  | u, [a, b], _ => by first | rfl | with_unfolding_all rfl | kernel_rfl
  | u, [a, b, c], _ => by first | rfl | with_unfolding_all rfl | kernel_rfl
  | _, _ :: _ :: _ :: _ :: r, h => absurd h (by simp only [List.length_cons]; omega)
section
variable {P : Program} {w : World} {K : PySem.W.Frag} {mg : Str → Option Value} {base : Heap} {C CQ fI : Addr} {fdI : FuncData}
theorem fn_asking {f : Addr} {fd : FuncData} (F : Fun K "asking" "Question.asking" (sQ 15) f fd) (T : TQu K C) (gQ : mg "Question" = some (.ref C)) (M : Mk K C fI)
    (GI : FnOk P w K mg base (L2.CX P w) 5 fI fdI ["self", "clauses", "asked"] (spInit2 K C CQ)) (bI : Binds K fdI ["self", "clauses", "asked"] []) :
    FnR P w K mg base (L2.CX P w) 8 f (spAskQ K C) := by
  obtain ⟨oc, od, kV, doc, pm, an, cdv, ct, osl, rfl, lk, hcd⟩ := F.ex
  refine FnR.imp (fn_ofV (pa := "self") (pv := "columns") (N := nAskM) (nmax := 3) (sp := spAskQB K C) lk hcd scAskM (by rw [sizeLine_eq]; decide) bind_asking cxNew fun A outer s H vs Q E hr h => ?_) fun vs H Q E h => ?_
  case refine_2 =>
    obtain ⟨p, q, as, rfl, qo, g, ag, k⟩ := h
    refine ⟨.ref p, as.map V.str, rfl, by rw [List.length_map]; exact ag.2.2, fun t ht => ?_⟩
    have s1 := K0.Same.new (.tup (as.map V.str)) ht
    exact ⟨p, t, q, as, rfl, upd_same, qo.same s1, g, ag, fun p' H' s' => k p' H' (K0.Same.tr s1 s')⟩
  obtain ⟨p, t, q, as, rfl, et, ⟨tc, ta, to, td, ts, ns, U⟩, g, ag, k⟩ := h
  obtain ⟨dx, ep⟩ := U.ob
  have hr6 : Room 6 _ := hr.mono (by decide)
  refine ⟨_, pss_cons (ps_for (passes_of rfl) rfl (pi_tup (pv 1)) (pg_name (i := 2) scAskM.nd rfl (Or.inl rfl)) (pss_one (ps_if (pt_cmpR op_notIn_seq (pv 2) (pe_fld (pv 0) rfl) rfl) (pss_one ps_never) pss_nil)))
    (pss_one (ps_ret (pe_make (E := fun _ _ _ => False) M GI hr6 (by rfl) gQ bI .nil passF (pa_cons (pe_fld (pv 0) rfl) (pa_cons (pv 1) pa_nil))))), ?_⟩
  have a3 := ag.2.2
  refine ⟨_, rfl, t, rfl, ⟨_, SqT.of et⟩, for_walk (walk_tup (K := K) (a := t) (xs := as.map V.str)) (fun i σ H' => H' = H ∧ ∃ b : Option V, σ = [some (.ref p), some (.ref t), b]) ⟨rfl, _, rfl⟩ (fun i σ H' _ z => by rw [z.1]; exact SqT.of et) ?_ ?_⟩
  · rintro i x σ H1 H2 hi ⟨rfl, b, rfl⟩ ⟨rfl, hx⟩
    rw [List.getElem?_map] at hx
    obtain ⟨z, hz, rfl⟩ := Option.map_eq_some_iff.mp hx
    have zin : inV (V.str z) (ns.map V.str) = true := by
      rw [inV_strs]
      exact decide_eq_true ((U.col.2.2 z).mpr (ag.2.1 z (List.mem_of_getElem? hz)))
    refine ⟨_, rfl, .ref p, rfl, p, C, dx, _, _, rfl, ep, T.cl, T.n3, qFs_columns _ _ _ _, to, _, rfl, .inr (SqT.of U.tos), rfl, flat_strs ns, _, rfl, ?_⟩
    rw [if_pos rfl, zin]
    exact if_neg_of rfl ⟨rfl, _, rfl⟩
  · rintro σ H1 ⟨rfl, b, rfl⟩
    refine ⟨.ref p, rfl, p, C, dx, _, _, rfl, ep, T.cl, T.n1, qFs_clauses _ _ _ _, _, rfl, ?_⟩
    intro x dx2 nx ndx nex
    have s7 : Same H1 (upd (upd H1 dx2 (.own x)) x (.ins C dx2 [])) := fun c o e => by
      rw [upd_ne (ne_of_none e nx), upd_ne (ne_of_none e ndx)]
      exact e
    have wf : WfQ ⟨q.cls, as⟩ := AskG.wf g ag
    refine ⟨x, dx2, tc, t, ts, ⟨q.cls, as⟩, rfl, upd_same, seqT s7 U.tcs, U.cls.same s7, s7 _ _ et, wf.pre, fun _ H' tc' ta' to' td' ns2 e U' kd => ⟨rfl, ?_⟩, fun no => absurd wf no⟩
    refine k x H' (fun c o e => ?_) ⟨tc', ta', to', td', _, ns2, U'⟩
    have n1 := ne_of_none e nx
    refine kd c o n1 ?_
    rw [upd_ne n1, upd_ne (ne_of_none e ndx)]
    exact e
end
end K0

/-! ## Y9 -/
set_option maxRecDepth 100000
set_option maxHeartbeats 8000000
namespace K0
open PySem PySem.Spec PyProof.Rows L2
/-! ### tuple(d): the keys -/
def rTupD : List V → Hp → VK → Prop := fun xs H Q => ∃ p kvs, xs = [.ref p] ∧ H p = some (.dK kvs) ∧ ∀ q, H q = none → Q (.ref q) (upd H q (.tup (kvs.map fun kv => kV kv.1)))
theorem call_tupleKeys {X : Cx} (hc : X.calm = true) : CallR X (.type "tuple") rTupD := by
  intro pins s σ H xs us Q I r h
  obtain ⟨p, kvs, rfl, hk, q⟩ := h
  rw [Vals.ref1 r]
  obtain ⟨z, lo, vs, rk, hd⟩ := (show ObjOk X.prog X.w H s.heap p (.dK kvs) from I.hok p _ hk)
  obtain ⟨ep, hat⟩ := hd.dictAt
  have hl : kvs.length = vs.length := Paired.length rk
  have ty : s.TypeIs (.ref p) "dict" := by
    obtain ⟨o, es, ho, hx, _⟩ := id hat
    exact ⟨o, ho, hx.1⟩
  refine tuple_src (PySem.W.kdl_dict (knd := mixKind X.prog X.w) (kvs := vs) (ep := ep) lo) ty (by decide) (I.ok.hd hc) hat (by omega) fun h' tk acc hkp hacc => ?_
  have I1 : Inv X pins σ H { s with heap := h', toks := tk } := I.kept hkp
  refine ⟨.ref _, upd H h'.objs.size (.tup (kvs.map fun kv => kV kv.1)), I1.laid (t' := tk) (fun b u e => Heap.get?_push_of_some _ e) (Nat.le_refl _) ⟨by rw [List.length_map]; omega, acc.toList, ?_, ⟨_, Heap.get?_push_size _ rfl, rfl, _, rfl⟩⟩, rfl, q _ (I1.hok.fresh (Nat.le_refl _))⟩
  have el : acc.toList.length = acc.size := by simp
  refine vals_of_at (by rw [List.length_map, el, hacc.1, hl]) fun j x w h1 h2 => ?_
  obtain ⟨k, y, hky, hi⟩ := hacc.2 j w (by rw [← Array.getElem?_toList]; exact h2)
  have e1 : (kvs.map (·.1))[j]? = some k := by
    rw [KV.keys rk, List.getElem?_map, hky] <;> rfl
  have e2 : (kvs.map fun kv => kV kv.1)[j]? = some (kV k) := by
    have e3 : (kvs.map fun kv => kV kv.1) = (kvs.map (·.1)).map kV := by rw [List.map_map] <;> rfl
    rw [e3, List.getElem?_map, e1] <;> rfl
  rw [e2] at h1
  cases h1
  exact keyIs_rel hi
end K0

/-! ## Y10 -/
set_option maxRecDepth 100000
set_option maxHeartbeats 8000000
namespace K0
open PySem L2 NS RZ
/-! ### the tables of some clauses -/
theorem keys_put1 {kvs : List (Key × V)} {k : Key} {v : V} (h : k ∈ kvs.map (·.1)) : (putK kvs k v).map (·.1) = kvs.map (·.1) := by
  unfold putK
  have e : (kvs.any fun kv => decide (kv.1 = k)) = true := by
    obtain ⟨p, hp, e⟩ := List.mem_map.mp h
    exact List.any_eq_true.mpr ⟨p, hp, decide_eq_true e⟩
  rw [if_pos e, List.map_map]
  refine List.map_congr_left fun p _ => ?_
  show (if p.1 = k then (p.1, v) else p).1 = p.1
  split <;> rfl
theorem keys_put2 {kvs : List (Key × V)} {k : Key} {v : V} (h : k ∉ kvs.map (·.1)) : (putK kvs k v).map (·.1) = kvs.map (·.1) ++ [k] := by
  unfold putK
  have e : (kvs.any fun kv => decide (kv.1 = k)) = false := by
    refine Bool.eq_false_iff.mpr fun z => h ?_
    obtain ⟨p, hp, e⟩ := List.any_eq_true.mp z
    exact List.mem_map.mpr ⟨p, hp, of_decide_eq_true e⟩
  rw [e, if_neg Bool.false_ne_true, List.map_append]
  rfl
theorem tabs_keys (cs : List CL) : ∃ ls : List Str, (tabsOf cs).map (·.1) = ls.map (Sum.inr : Str → Key) ∧ ls.Nodup ∧ ∀ k, k ∈ ls ↔ ∃ c ∈ cs, c.1 = k := by
  induction cs using snoc_ind with
  | h0 => exact ⟨[], rfl, List.nodup_nil, fun k => ⟨fun h => (by cases h), fun ⟨c, h, _⟩ => (by cases h)⟩⟩
  | hs l a ih =>
    obtain ⟨ls, h1, h2, h3⟩ := ih
    have mm : (Sum.inr a.1 : Key) ∈ ls.map (Sum.inr : Str → Key) ↔ a.1 ∈ ls := ⟨fun z => by
      obtain ⟨y, hy, e⟩ := List.mem_map.mp z
      rw [← Sum.inr.inj e]
      exact hy, fun z => List.mem_map.mpr ⟨_, z, rfl⟩⟩
    rw [tabsOf_snoc]
    by_cases c : a.1 ∈ ls
    · refine ⟨ls, by rw [keys_put1 (by rw [h1]; exact mm.mpr c), h1], h2, fun k => (h3 k).trans ⟨fun ⟨d, hd, e⟩ => ⟨d, List.mem_append_left _ hd, e⟩, fun ⟨d, hd, e⟩ => ?_⟩⟩
      rcases List.mem_append.mp hd with z | z
      · exact ⟨d, z, e⟩
      · rw [List.mem_singleton.mp z] at e
        subst e
        exact (h3 _).mp c
    · refine ⟨ls ++ [a.1], by rw [keys_put2 (by rw [h1]; exact fun z => c (mm.mp z)), h1, List.map_append]; rfl, List.nodup_append.mpr ⟨h2, List.nodup_cons.mpr ⟨List.not_mem_nil, List.nodup_nil⟩, fun x hx y hy e => c (by rw [List.mem_singleton.mp hy] at e; rw [← e]; exact hx)⟩, fun k => ?_⟩
      rw [List.mem_append, h3 k, List.mem_singleton]
      constructor
      · rintro (⟨d, hd, e⟩ | e)
        · exact ⟨d, List.mem_append_left _ hd, e⟩
        · exact ⟨a, List.mem_append_right _ List.mem_cons_self, e.symm⟩
      · rintro ⟨d, hd, e⟩
        rcases List.mem_append.mp hd with z | z
        · exact .inl ⟨d, z, e⟩
        · rw [List.mem_singleton.mp z] at e
          exact .inr e.symm
theorem tabs_strs {cs : List CL} {ls : List Str} (h : (tabsOf cs).map (·.1) = ls.map (Sum.inr : Str → Key)) : (tabsOf cs).map (fun kv => kV kv.1) = ls.map V.str := by
  have e : (tabsOf cs).map (fun kv => kV kv.1) = ((tabsOf cs).map (·.1)).map kV := by rw [List.map_map]; rfl
  rw [e, h, List.map_map]
  rfl
/-! ### other tables -/
def tabC (f : Str → Str) (c : CL) : CL := (f c.1, c.2)
theorem WfQ.retab {q : PQ} (g : WfQ q) {f : Str → Str} (hf : ∀ c ∈ q.cls, nameS (f c.1) = true) (inj : ∀ c ∈ q.cls, ∀ d ∈ q.cls, f c.1 = f d.1 → c.1 = d.1) {cs' : List CL} (s : Srt cs' (q.cls.map (tabC f))) : WfQ ⟨cs', q.asked⟩ := by
  have back : ∀ c ∈ cs', ∃ d ∈ q.cls, tabC f d = c := fun c hc => by
    obtain ⟨d, hd, e⟩ := List.mem_map.mp ((s.mem c).mp hc)
    exact ⟨d, hd, e⟩
  obtain ⟨pool, p1, p2⟩ := g.c.cols
  refine ⟨⟨fun e => ?_, ?_, fun c hc => ?_, fun c hc k hk => ?_, fun c hc => ?_, s.up, fun c hc c' hc' e => ?_, pool, p1, fun c hc k hk => ?_⟩, g.nd, fun k hk => ?_⟩
  · cases h : q.cls with
    | nil => exact g.c.some_ h
    | cons d r =>
      have z : tabC f d ∈ cs' := (s.mem _).mpr (by rw [h]; exact List.mem_cons_self)
      have e' : cs' = [] := e
      rw [e'] at z
      cases z
  · have z := s.len
    rw [List.length_map] at z
    exact Nat.le_trans z g.c.few
  · obtain ⟨d, hd, rfl⟩ := back c hc
    exact hf d hd
  · obtain ⟨d, hd, rfl⟩ := back c hc
    exact g.c.nam d hd k hk
  · obtain ⟨d, hd, rfl⟩ := back c hc
    exact g.c.wide d hd
  · obtain ⟨d, hd, rfl⟩ := back c hc
    obtain ⟨d', hd', rfl⟩ := back c' hc'
    exact g.c.same d hd d' hd' (inj d hd d' hd' e)
  · obtain ⟨d, hd, rfl⟩ := back c hc
    exact p2 d hd k hk
  · obtain ⟨c, hc, h⟩ := colsIn_mem.mp (g.ask k hk)
    exact colsIn_mem.mpr ⟨tabC f c, (s.mem _).mpr (List.mem_map.mpr ⟨c, hc, rfl⟩), h⟩
end K0

/-! ## Y11 -/
set_option maxRecDepth 100000
set_option maxHeartbeats 8000000
namespace K0
open PySem L2 NS RZ
/-! ### Question.retabled -/
theorem map_keyC : ∀ {a b : List CL}, a.map keyC = b.map keyC → a = b
  | [], [], _ => rfl
  | [], _ :: _, h => by cases h
  | _ :: _, [], h => by cases h
  | x :: a, y :: b, h => by
    rw [List.map_cons, List.map_cons] at h
    injection h with h1 h2
    rw [keyC_inj h1, map_keyC h2]
theorem rowsC_of : ∀ {N : List Row} {cs : List CL}, N.map (·.2) = cs.map keyC → rowsC (N.map (·.1)) cs = N
  | [], [], _ => rfl
  | [], _ :: _, h => by cases h
  | _ :: _, [], h => by cases h
  | m :: N, c :: cs, h => by
    rw [List.map_cons, List.map_cons] at h
    injection h with h1 h2
    rw [List.map_cons, rowsC, rowsC_of h2, ← h1]
def spRetab (K : PySem.W.Frag) (C : Addr) : Sp := fun vs H Q _ => ∃ (p d : Addr) (q : PQ) (ls : List Str) (f : Str → Str), vs = [.ref p, .ref d] ∧ QuO K C H p q ∧ WfQ q ∧ (∀ k, k ∈ ls ↔ ∃ c ∈ q.cls, c.1 = k) ∧ NamD H d ls f ∧ (∀ k ∈ ls, nameS (f k) = true) ∧ Inj f ls ∧
  ∀ p' H' cs', Same H H' → Srt cs' (q.cls.map (tabC f)) → QuO K C H' p' ⟨cs', q.asked⟩ → Q (.ref p') H'
abbrev nRet : List Str := ["self", "names", "table", "columns"]
theorem scRet : FnScope nRet ["self", "names"] (defScope (sQ 17)) := ⟨rfl, rfl, rfl, by decide +kernel, rfl, by decide +kernel, by decide +kernel⟩
section
variable {P : Program} {w : World} {K : PySem.W.Frag} {mg : Str → Option Value} {base : Heap} {C CO CQ fN fI : Addr} {fdN fdI : FuncData}
theorem ok_retab {f : Addr} {fd : FuncData} (F : Fun K "retabled" "Question.retabled" (sQ 17) f fd) (T : TQu K C) (B : TWi mg) (gQ : mg "Question" = some (.ref C)) (M : Mk K C fI)
    (GI : FnOk P w K mg base (L2.CX P w) 5 fI fdI ["self", "clauses", "asked"] (spInit2 K C CQ)) (bI : Binds K fdI ["self", "clauses", "asked"] [])
    (eN : Gl K mg "is_naming" fN) (GN : FnOk P w K mg base (L2.CX P w) 3 fN fdN ["names", "value"] (spNaming CO)) (bN : Binds K fdN ["names", "value"] []) : FnOk P w K mg base CX0 7 f fd ["self", "names"] (spRetab K C) := by
  refine F.ok scRet (fun vs H Q E h => ?_) (fun cdv A outer s H vs Q E hr h => ?_)
  · obtain ⟨p, d, q, ls, f, rfl, _⟩ := h
    rfl
  · obtain ⟨p, d, q, ls, f, rfl, ⟨tc, ta, to, td, ts, ns, U⟩, g, hl, nd, nn, inj, k⟩ := h
    have hr3 : Room 3 _ := hr.mono (by decide)
    refine ⟨_, pss_cons (ps_if (pt_not (pt_val (pe_call (E := fun _ _ _ => False) GN hr3 (by rfl) eN.g eN.k bN .nil passF (pa_cons (pe_callTy (T := "tuple") (call_tupleKeys rfl) (by rfl) B.tup (by decide +kernel) (pa_cons (pe_fld (pv 0) rfl) pa_nil)) (pa_cons (pv 1) pa_nil))))) (pss_one ps_never) pss_nil)
      (pss_one (ps_ret (pe_make (E := fun _ _ _ => False) M GI hr (by rfl) gQ bI .nil passF (pa_cons (pe_callTy (T := "tuple") call_tuple_of (by rfl) B.tup (by decide +kernel) (pa_cons (pe_callB (cr_sortList hr.units) (by rfl) B.srt (by decide +kernel) (pa_cons
          (pe_lc (own := [("table", 2), ("columns", 3)]) (g := gTup K 2 (gCons (gName 2) (gCons (gName 3) gNil))) (tt := tYes) (te := tTup (tCons (tDGet (tVar 1) (tVar 2)) (tCons (tVar 3) tNil))) rfl scRet.nd
            (pi_tup (pe_fld (pv 0) rfl)) (blkOk_by (own := [("table", 2), ("columns", 3)]) (N := nRet) (sc := defScope (sQ 17)) (by decide +kernel))
            (fun _ _ _ _ _ => pg_tup rfl (pgs_cons (pg_name (i := 2) scRet.nd rfl (Or.inl rfl)) (pgs_cons (pg_name (i := 3) scRet.nd rfl (Or.inl rfl)) pgs_nil))) (fun _ _ _ _ _ => pts_nil)
            (fun _ _ _ _ _ => pe_tup (pa_cons (pe_dget (lt1 hr.units) (pv 1) (pv 2) (fun _ _ => rfl)) (pa_cons (pv 3) pa_nil)))) pa_nil)) pa_nil)) (pa_cons (pe_fld (pv 0) rfl) pa_nil))))), ?_⟩
    obtain ⟨dx, ep⟩ := U.ob
    obtain ⟨ls', l1, l2, l3⟩ := tabs_keys q.cls
    have nd := nd.to fun k => (hl k).trans (l3 k).symm
    have nn : ∀ k ∈ ls', nameS (f k) = true := fun k hk => nn k ((hl k).mpr ((l3 k).mp hk))
    have inj : ∀ x ∈ ls', ∀ y ∈ ls', f x = f y → x = y := fun x hx y hy => inj x ((hl x).mpr ((l3 x).mp hx)) y ((hl y).mpr ((l3 y).mp hy))
    obtain ⟨kvs, e1, e2, e3, e4, e5⟩ := nd.ex l2
    have q8 := g.c.few
    have n8 : ls'.length ≤ 8 := by
      have z := congrArg List.length l1
      rw [List.length_map, List.length_map] at z
      have := tabsOf_len q.cls
      omega
    have nam : ∀ k ∈ ls', nameS k = true := fun k hk => by
      obtain ⟨c, hc, rfl⟩ := (l3 k).mp hk
      exact g.c.tab c hc
    refine ⟨.ref p, rfl, p, C, dx, _, _, rfl, ep, T.cl, T.n4, qFs_tables _ _ _ _, td, _, rfl, U.tds, fun tt htt => ?_⟩
    have s1 := K0.Same.new (.tup ((tabsOf q.cls).map fun kv => kV kv.1)) htt
    have ett : upd H tt (.tup ((tabsOf q.cls).map fun kv => kV kv.1)) tt = some (.tup (ls'.map V.str)) := by rw [← tabs_strs l1]; exact upd_same
    have d1 := s1 _ _ e1
    generalize upd H tt (.tup ((tabsOf q.cls).map fun kv => kV kv.1)) = H1 at s1 ett d1 ⊢
    have al : onTup H1 (fun xs => xs.all nameV) (.ref tt) = true := by
      simp only [onTup, ett]
      refine List.all_eq_true.mpr fun x hx => ?_
      obtain ⟨k, hk, rfl⟩ := List.mem_map.mp hx
      exact nam k hk
    have ks : ksOf H1 (.ref tt) = ls' := by
      simp only [ksOf, ett]
      rw [List.map_map]
      exact List.map_id' ls'
    have np : onDct H1 (nmP ls') (.ref d) = true := by
      simp only [onDct, d1]
      unfold nmP fromP tkeys
      rw [ded_nd l2, decide_eq_true e2, decide_eq_true (e5 inj)]
      simp only [Bool.true_and, Bool.and_true, Bool.and_eq_true]
      refine ⟨List.all_eq_true.mpr fun k hk => by rw [e3 k hk]; rfl, List.all_eq_true.mpr fun x hx => ?_⟩
      obtain ⟨pq, hp, rfl⟩ := List.mem_map.mp hx
      obtain ⟨k, hk, rfl⟩ := e4 pq hp
      exact nn k hk
    refine ⟨_, rfl, .ref tt, .ref d, rfl, .tup ett, fun b xs z1 z2 => ?_, .dK d1, fun b kv z1 z2 => ?_, fun b kv z1 z2 => ?_, fun _ H2 s2 => ?_, fun z => ?_⟩
    · cases z1
      rw [ett] at z2
      cases z2
      refine ⟨by rw [List.length_map]; omega, fun x hx => ?_⟩
      obtain ⟨k, hk, rfl⟩ := List.mem_map.mp hx
      refine ⟨.str _, ?_⟩
      show k.length ≤ 1000
      have := nameS_len (nam k hk)
      omega
    · cases z1
      rw [d1] at z2
      cases z2
      refine ⟨by omega, fun p hp => ?_⟩
      obtain ⟨k, _, rfl⟩ := e4 p hp
      exact ⟨k, rfl⟩
    · cases z1
      rw [d1] at z2
      cases z2
      intro p hp
      obtain ⟨k, hk, rfl⟩ := e4 p hp
      refine ⟨f k, rfl, ?_⟩
      have := nameS_len (nn k hk)
      omega
    · rw [ks, np]
      refine ⟨_, rfl, if_neg_of rfl ?_⟩
      have s02 := K0.Same.tr s1 s2
      have U2 := U.same s02
      have d2 := s2 _ _ d1
      have ep2 := s02 _ _ ep
      have lc0 : ts.length = q.cls.length := U.cls.len
      refine ⟨.ref p, rfl, p, C, dx, _, _, rfl, ep2, T.cl, T.n1, qFs_clauses _ _ _ _, tc, rfl, ⟨_, U2.tcs⟩, fun D hD => lc_made (walk_tup (K := K) (a := tc) (xs := ts.map V.ref)) (fun i y H' => ∃ t t2 c, y = V.ref t ∧ (q.cls.map (tabC f))[i]? = some c ∧ t ≠ D ∧ t2 ≠ D ∧ H' t = some (.tup [.str c.1, .ref t2]) ∧ H' t2 = some (.tup (c.2.map V.str)))
        (fun i y H1 H2 ⟨t, t2, c, e1, e2, n1, n2, h1, h2⟩ kd => ⟨t, t2, c, e1, e2, n1, n2, kd _ _ n1 h1, kd _ _ n2 h2⟩) (by rw [List.length_map, sizeLine_eq]; omega) hD (fun H1 s1 => seqT s1 U2.tcs) ?_ gPair_mono ?_⟩
      · rintro i x H4 H5 hi s4 ⟨acc, hacc⟩ ⟨rfl, hxi⟩
        have hi' : i < ts.length := by rwa [List.length_map] at hi
        obtain ⟨c, hc, t2, h1, h2⟩ := U2.cls.at_ i hi'
        have ex : x = V.ref ts[i] := by
          rw [List.getElem?_map, List.getElem?_eq_getElem hi'] at hxi
          exact (Option.some.inj hxi).symm
        subst ex
        have hcm : c ∈ q.cls := List.mem_of_getElem? hc
        have g1 := s4 _ _ h1
        have g2 := s4 _ _ h2
        have n2 : t2 ≠ D := fun z => by
          rw [z, hD] at h2
          cases h2
        refine ⟨ts[i], _, rfl, SqT.of g1, rfl, _, _, rfl, _, _, rfl, rfl, rfl, fun Q2 hQ2 => ⟨_, rfl, _, rfl, d, _, rfl, by rw [← e3 c.1 ((l3 _).mpr ⟨c, hcm, rfl⟩)]; exact DGet.k (k := Sum.inr c.1) (s4 _ _ d2), _, rfl, by show 2 ≤ sizeLine; decide, fun t4 ht4 => ?_⟩⟩
        have n4 : t4 ≠ D := fun z => by rw [z, hacc] at ht4; cases ht4
        exact hQ2 _ _ (K0.Same.new _ ht4) ⟨t4, t2, tabC f c, rfl, by rw [List.getElem?_map, hc]; rfl, n4, n2, upd_same, K0.Same.new _ ht4 _ _ g2⟩
      rintro H4 acc s4 hD4 hlen hR
      rw [List.length_map] at hlen
      obtain ⟨N, rfl, n2, n3⟩ := rows_made acc (q.cls.map (tabC f)) (by rw [List.length_map]; omega) hR
      rw [List.length_map] at hlen
      obtain ⟨cs2, c1, c2⟩ := rows_cls N n3
      have ec : cs2 = q.cls.map (tabC f) := map_keyC (c2.trans n2)
      subst ec
      have ndc : (q.cls.map (tabC f)).Nodup := by
        refine List.pairwise_map.mpr ((pair_nodup g.c.up).imp_of_mem fun {a b} ha hb ne e => ne ?_)
        have z1 : f a.1 = f b.1 := congrArg Prod.fst e
        have z2 : (tabC f a).2 = (tabC f b).2 := congrArg Prod.snd e
        have z3 := inj a.1 ((l3 _).mpr ⟨a, ha, rfl⟩) b.1 ((l3 _).mpr ⟨b, hb, rfl⟩) z1
        exact Prod.ext z3 z2
      refine ⟨D, N, 2, rfl, SqL.of hD4, fun m hm => ?_, lined_cls fun m hm => (n3 m hm).imp fun c h => h.1, fun M' lp pm pw hp => ?_⟩
      · obtain ⟨c, e, h⟩ := n3 m hm
        have z := h.kr (K := K)
        rw [← e] at z
        exact z
      have eN : rowsC (N.map (·.1)) (q.cls.map (tabC f)) = N := rowsC_of n2
      obtain ⟨cs', hc', up, mm⟩ := sorted_cls c1 ndc (by rw [eN]; exact pm) pw
      have eM : M'.map (fun m => V.ref m.1) = (M'.map (·.1)).map V.ref := by rw [List.map_map]; rfl
      rw [eM]
      generalize M'.map (·.1) = ts' at hc' ⊢
      have sd := K0.Same.new (.lst (ts'.map V.ref)) hp
      refine ⟨lp, _, rfl, .inl ⟨SqL.of upd_same, fun tq htq => ?_⟩⟩
      have st := K0.Same.new (.tup (ts'.map V.ref)) htq
      have s4t := K0.Same.tr s4 (K0.Same.tr sd st)
      refine ⟨.ref p, rfl, p, C, dx, _, _, rfl, s4t _ _ ep2, T.cl, T.n2, qFs_asked _ _ _ _, ?_⟩
      intro x dx2 nx ndx nex
      have srt : Srt cs' (q.cls.map (tabC f)) := ⟨up, mm⟩
      have wf : WfQ ⟨cs', q.asked⟩ := g.retab (fun c hc => nn c.1 ((l3 _).mpr ⟨c, hc, rfl⟩)) (fun c hc e he => inj c.1 ((l3 _).mpr ⟨c, hc, rfl⟩) e.1 ((l3 _).mpr ⟨e, he, rfl⟩)) srt
      have s7 : ∀ {H6 : Hp}, H6 x = none → H6 dx2 = none → Same H6 (upd (upd H6 dx2 (.own x)) x (.ins C dx2 [])) := fun n1 n2 c o e => by
        rw [upd_ne (ne_of_none e n1), upd_ne (ne_of_none e n2)]
        exact e
      have s7' := s7 nx ndx
      have sA := K0.Same.tr s02 s4t
      refine ⟨x, dx2, tq, ta, ts', ⟨cs', q.asked⟩, rfl, upd_same, SqT.of (s7' _ _ upd_same), (hc'.same (K0.Same.tr sd st)).same s7', s7' _ _ (s4t _ _ U2.tas), wf.pre, fun _ H' tc' ta' to' td' ns2 e U' kd => ⟨rfl, ?_⟩, fun no => absurd wf no⟩
      refine k x H' cs' (fun c o e => ?_) srt ⟨tc', ta', to', td', _, ns2, U'⟩
      have e6 := sA _ _ e
      have n1 := ne_of_none e6 nx
      refine kd c o n1 ?_
      rw [upd_ne n1, upd_ne (ne_of_none e6 ndx)]
      exact e6
    · rw [al] at z
      cases z
end
end K0

/-! ## Y12 -/
set_option maxRecDepth 100000
set_option maxHeartbeats 8000000
namespace K0
open PySem PySem.Spec PyProof.Rows L2
/-! ### one object + another one of the same class, with a method of one's own -/
def rAddOwn (C : Addr) (sp : Sp) (E : XK) : R2 := fun x y H Q => ∃ a dx fs b dy gs, x = .ref a ∧ y = .ref b ∧ H a = some (.ins C dx fs) ∧ H b = some (.ins C dy gs) ∧ sp [x, y] H (fun v H' => (∃ c, v = .ref c) ∧ Q v H') E
section
variable {X : Cx} {CX : CXT} {n : Nat} {C g : Addr} {sp : Sp} {E : XK}
theorem op_addOwn (hc : PySem.W.selfFirst X.K C = true) (hs : PySem.W.findIn X.K (.ref C) "__add__" = some (some (.ref g))) (hf : PySem.W.isFn X.K (.ref g) = true) (F : FnR X.prog X.w X.K X.mg X.base CX n g sp)
    (hr : Room n X.A) (hx : Passes CX X E) : OpR X (binaryOp .Add) (rAddOwn C sp E) := by
  intro pins s σ H x y v u Q I rx ry h
  obtain ⟨a, dx, fs, b, dy, gs, rfl, rfl, ha, hb, q⟩ := h
  cases (show v = Value.ref a from rx)
  cases (show u = Value.ref b from ry)
  obtain ⟨mA, J, _⟩ := ins_get I.hok ha
  obtain ⟨od, J, _⟩ := J.look
  obtain ⟨mB, J2, _⟩ := ins_get I.hok hb
  obtain ⟨od2, J2, _⟩ := J2.look
  obtain ⟨m, F0⟩ := I.fr
  refine PySem.W.binop_K F0 I.mod.kin J J2.type hc hs hf ?_
  refine wpAny_mono (wpAny_call (run_fnR (us := [.ref a, .ref b]) (vs := [.ref a, .ref b]) F hr hx I (.cons rfl (.cons rfl .nil)) q)) (fun w s' z => ?_) fun _ _ x => x
  obtain ⟨z', H', I', rz, ⟨c, rfl⟩, qz⟩ := z
  cases (show w = Value.ref c from rz)
  exact ⟨.ref c, H', I', rfl, qz⟩
end
end K0

/-! ## P6 -/
set_option maxRecDepth 100000
set_option maxHeartbeats 2000000
namespace K0
open PySem PySem.Spec PyProof.Rows L2 Builtin
/-! ### zip(z, t), z a text, t a tuple -/
abbrev zsH1 (h : Heap) (x : Str) (k : Tok) : Heap := h.push { cls := .type (strIterType x), data := .fields #[.str x k, .int 0 0] }
abbrev zsH2 (h : Heap) (x : Str) (k : Tok) (l2 : Addr) : Heap := (zsH1 h x k).push { cls := .type "tuple_iterator", data := .fields #[.ref l2, .int 0 0] }
abbrev zsH3 (h : Heap) (x : Str) (k : Tok) (l2 : Addr) : Heap := (zsH2 h x k l2).push { cls := .type "tuple", data := .seq #[.ref h.objs.size, .ref (zsH1 h x k).objs.size] }
abbrev zsH4 (h : Heap) (x : Str) (k : Tok) (l2 : Addr) : Heap := (zsH3 h x k l2).push { cls := .type "tuple", data := .seq #[.none, .none] }
abbrev zsH5 (h : Heap) (x : Str) (k : Tok) (l2 : Addr) : Heap := (zsH4 h x k l2).push { cls := .type "zip", data := .fields #[.none, .bool false, .bool false, .ref (zsH2 h x k l2).objs.size, .ref (zsH3 h x k l2).objs.size] }
theorem meets_zipS (x : Str) (k : Tok) (l2 : Addr) (ys : Array Value) :
    Meets (Builtin.«zip.__new__» ⟨[.type "zip", .str x k, .ref l2], []⟩) (fun _ R s => s.heap.IsTuple l2 ys ∧
      R (.ok (.ret (.ref (zsH4 s.heap x k l2).objs.size))) { s with heap := zsH5 s.heap x k l2 }) :=
  .of_wp fun prog w A R s h => by
    obtain ⟨hp, g, d, tk, os⟩ := s; obtain ⟨hl2, h⟩ := h
    have hsub := sub_zip
    have hL2 : Heap.IsTuple (Shared.heap ⟨hp.push { cls := .type (strIterType x), data := .fields #[.str x k, .int 0 0] }, g, d, tk, os⟩) l2 ys := Heap.IsTuple.push hl2 _
    wp_walk using wpAny_pyIter_strU, wpAny_pyIter_tuple hL2
    exact ⟨_, rfl, h⟩
section
variable {prog : Program} {w : World} {A : Around} {E : Value → Shared → Prop} {s : Shared}
theorem call_zipS {x : Str} {k : Tok} {l2 : Addr} {ys : Array Value} {Q : Value → Shared → Prop} (hl2 : s.heap.IsTuple l2 ys)
    (h : ∀ h', IsZip h' (s.heap.objs.size + 4) (s.heap.objs.size + 2) (s.heap.objs.size + 3) .none → IsPair h' (s.heap.objs.size + 2) (.ref s.heap.objs.size) (.ref (s.heap.objs.size + 1)) →
      IsPair h' (s.heap.objs.size + 3) .none .none → h'.IsStrIter s.heap.objs.size (strIterType x) x k 0 → h'.IsTupleIter (s.heap.objs.size + 1) l2 0 →
      (∀ c o, s.heap.get? c = some o → h'.get? c = some o) → Q (.ref (s.heap.objs.size + 4)) { s with heap := h' }) :
    wpAny (model prog w) A (call (.type "zip") [.str x k, .ref l2]) Q E s := by
  refine callType_new F.called_zip (by decide) (F.typeCall_zip_2 _ _) (F.newCall_zip_2 _ _) (fun obj => F.args_object_init_3 obj _ _) F.entry_zip_new
    (meets_zipS x k l2 ys) ⟨hl2, ?_⟩
  have z1 : (zsH1 s.heap x k).objs.size = s.heap.objs.size + 1 := Heap.size_push ..
  have z2 : (zsH2 s.heap x k l2).objs.size = s.heap.objs.size + 2 := by rw [Heap.size_push, z1]
  have z3 : (zsH3 s.heap x k l2).objs.size = s.heap.objs.size + 3 := by rw [Heap.size_push, z2]
  have z4 : (zsH4 s.heap x k l2).objs.size = s.heap.objs.size + 4 := by rw [Heap.size_push, z3]
  have g5 : (zsH5 s.heap x k l2).get? (zsH4 s.heap x k l2).objs.size = some _ := Heap.get?_push_size _ rfl
  have g4 : (zsH5 s.heap x k l2).get? (zsH3 s.heap x k l2).objs.size = some _ := Heap.get?_push_of_some _ (Heap.get?_push_size _ rfl)
  have g3 : (zsH5 s.heap x k l2).get? (zsH2 s.heap x k l2).objs.size = some _ := Heap.get?_push_of_some _ (Heap.get?_push_of_some _ (Heap.get?_push_size _ rfl))
  have g2 : (zsH5 s.heap x k l2).get? (zsH1 s.heap x k).objs.size = some _ := Heap.get?_push_of_some _ (Heap.get?_push_of_some _ (Heap.get?_push_of_some _ (Heap.get?_push_size _ rfl)))
  have g1 : (zsH5 s.heap x k l2).get? s.heap.objs.size = some _ := Heap.get?_push_of_some _ (Heap.get?_push_of_some _ (Heap.get?_push_of_some _ (Heap.get?_push_of_some _ (Heap.get?_push_size _ rfl))))
  show _ ∧ _
  rw [z2, z3, z4] at g5
  rw [z1, z2] at g3
  rw [z3] at g4
  rw [z1] at g2
  rw [z4]
  exact ⟨⟨_, g5, rfl⟩, h _ g5 g3 g4 ⟨_, g1, rfl, rfl⟩ ⟨_, g2, rfl, rfl⟩ fun c o x =>
    Heap.get?_push_of_some _ (Heap.get?_push_of_some _ (Heap.get?_push_of_some _ (Heap.get?_push_of_some _ (Heap.get?_push_of_some _ x))))⟩
end
/-- the text's signs beside the items of the tuple at b, in new pairs -/
def ItzS (K : PySem.W.Frag) (z : Str) (b : Addr) : It :=
  ⟨fun i H => ∃ (ys : List V) (c : Nat) (y : V), Rd H b (.tup ys) ∧ z.cps[i]? = some c ∧ ys[i]? = some y,
    fun i H v H' => ∃ T c y, v = .ref T ∧ H T = none ∧ H' = upd H T (.tup [.str ⟨#[c]⟩, y]) ∧ z.cps[i]? = some c ∧ ∀ ys, Rd H b (.tup ys) → ys[i]? = some y,
    fun i H => ∃ ys : List V, Rd H b (.tup ys) ∧ i ≤ z.cps.size ∧ i ≤ ys.length ∧ (z.cps.size ≤ i ∨ ys.length ≤ i)⟩
structure ZsAp (z TI TO i1 i2 : Addr) : Prop where
  TIz : TI ≠ z
  TOz : TO ≠ z
  TITO : TI ≠ TO
  TIi1 : TI ≠ i1
  TIi2 : TI ≠ i2
  zi1 : z ≠ i1
  zi2 : z ≠ i2
  Ti1 : TO ≠ i1
  Ti2 : TO ≠ i2
  i12 : i1 ≠ i2
theorem zs_sep {z TI TO i1 i2 b : Addr} (D : ZsAp z TI TO i1 i2) (hz : z ≠ b) (hT : TO ≠ b) (h1 : i1 ≠ b) : ZipSep2 z TI TO i1 i2 [i1] [i2, b] where
  TIz := D.TIz
  TOz := D.TOz
  TITO := D.TITO
  TIi1 := D.TIi1
  mem1 := by simp
  zf1 := by simp [D.zi1]
  Tf1 := by simp [D.Ti1]
  TIi2 := D.TIi2
  mem2 := by simp
  zf2 := by simp [D.zi2, hz]
  Tf2 := by simp [D.Ti2, hT]
  sep1_2 := by simp [D.i12, h1]
  sep2_1 := by simp [Ne.symm D.i12]
theorem rd_sqT {K : PySem.W.Frag} {H : Hp} {b : Addr} {ys : List V} (h : Rd H b (.tup ys)) : SqT K H b ys := .inl h
theorem turn_zipS {P : Program} {w : World} {K : PySem.W.Frag} {elts : List Expr} {kk : Nat} {tpos : Pos} {x : Str} {tk0 : Tok} {b z TI TO i1 i2 : Addr} (D : ZsAp z TI TO i1 i2) :
    Turn P w K (.Tuple elts kk tpos) (ItzS K x b) [z, TI, TO, i1, i2] z (fun i h => IsZip h z TI TO .none ∧ IsPair h TI (.ref i1) (.ref i2) ∧ (∃ x y, IsPair h TO x y) ∧ h.IsStrIter i1 (strIterType x) x tk0 i ∧ h.IsTupleIter i2 b i) where
  mem := by simp
  obj := fun i h st c hc => by
    obtain ⟨hz, hTI, ⟨x, y, hTO⟩, ⟨o1, e1, _, d1⟩, ⟨o2, e2, _, d2⟩⟩ := st
    have e' : c = z ∨ c = TI ∨ c = TO ∨ c = i1 ∨ c = i2 := by simpa using hc
    rcases e' with q | q | q | q | q
    · rw [q]; exact ⟨_, hz, fun v q => nomatch q⟩
    · rw [q]; exact ⟨_, hTI, fun v q => nomatch q⟩
    · rw [q]; exact ⟨_, hTO, fun v q => nomatch q⟩
    · rw [q]; exact ⟨o1, e1, fun v q => by rw [d1] at q; cases q⟩
    · rw [q]; exact ⟨o2, e2, fun v q => by rw [d2] at q; cases q⟩
  keep := fun i h h' st k => by
    obtain ⟨hz, hTI, ⟨x, y, hTO⟩, ⟨o1, e1, r1⟩, h2⟩ := st
    exact ⟨k z (by simp) _ hz, k TI (by simp) _ hTI, ⟨x, y, k TO (by simp) _ hTO⟩, ⟨o1, k i1 (by simp) _ e1, r1⟩, h2.at fun o q => k i2 (by simp) o q⟩
  item := by
    intro X hP hw hK hc i pins s σ H E I hf st hg
    subst hP hw hK
    obtain ⟨hz, hTI, ⟨x0, y0, hTO⟩, h1, h2⟩ := st
    obtain ⟨ys, c, y, hqy, hx, hy⟩ := hg
    obtain ⟨its2, rv2, p2, _⟩ := I.tuple (rd_sqT hqy)
    obtain ⟨u2, hu2, ru2⟩ := rv2.get hy
    have hzl : z < s.heap.objs.size := Heap.lt_size hz
    have hp2 : s.heap.IsTuple b its2.toArray := p2
    have nb : ∀ c, c ∈ [z, TI, TO, i1, i2] → c ≠ b := fun c hc e => by
      have q := (hf c hc).1
      rw [e] at q
      rcases hqy with h | ⟨o, h⟩ <;> rw [h] at q <;> cases q
    have S := zs_sep D (nb z (by simp)) (nb TO (by simp)) (nb i1 (by simp))
    have hh : X.A.in1.handled = none := I.ok.hd hc
    have hlt1 : i < x.cps.size := (Array.getElem?_eq_some_iff.mp hx).1
    have hlt2 : i < its2.toArray.size := by
      have := (List.getElem?_eq_some_iff.mp hu2).1
      simpa using this
    refine wpAny_pyNext_zipD2_item S (Draws.text (A := X.A.in1) hh i1 x tk0) (Draws.tuple (A := X.A.in1) hh i2 b (Ne.symm (nb i2 (by simp))) its2.toArray) hz hTI hTO h1 ⟨h2, hp2⟩ hlt1 hlt2
      fun v1 v2 h' tk hP1 hP2 z' TO' h1' h2' hT hsz hk => ?_
    obtain ⟨c', t1, hc', rfl⟩ := hP1
    obtain rfl : c' = c := by
      rw [hx] at hc'
      exact (Option.some.inj hc').symm
    have e2 : v2 = u2 := by
      have q : its2.toArray[i]? = some v2 := hP2
      have q2 : its2.toArray[i]? = some u2 := by simpa using hu2
      rw [q2] at q
      exact (Option.some.inj q).symm
    subst e2
    refine ⟨_, rfl, wpAny_letOwnedTupleGo_zip (s := { s with heap := h', toks := tk }) z' fun h'' z'' sb => ?_⟩
    have hT2 : h''.get? s.heap.objs.size = some { cls := .type "tuple", data := .seq #[.str ⟨#[c']⟩ t1, v2] } := (sb.2 _ (Nat.ne_of_gt hzl)).trans hT
    have new : ObjOk X.prog X.w (upd H s.heap.objs.size (.tup [.str ⟨#[c']⟩, y])) h'' s.heap.objs.size (.tup [.str ⟨#[c']⟩, y]) :=
      ⟨by show 2 ≤ sizeLine; decide, [.str ⟨#[c']⟩ t1, v2], .cons ⟨_, rfl⟩ (.cons ru2 .nil), ⟨_, hT2, rfl, _, rfl⟩⟩
    have I1 : Inv X pins σ (upd H s.heap.objs.size (.tup [.str ⟨#[c']⟩, y])) { s with heap := h'', toks := tk } :=
      I.turnedNew (ch := [z, TI, TO, i1, i2]) (fun c o hb q => (sb.2 c (fun q' => hb (by simp [q']))).trans (hk c o (fun q' => hb (by simp [q'])) (fun q' => hb (by simp [q'])) (fun q' => hb (by simp [q'])) (fun q' => hb (by simp [q'])) q)) hf (Nat.le_refl _) new
    refine ⟨.ref s.heap.objs.size, _, I1, rfl, ⟨_, c', y, rfl, I.hok.fresh (Nat.le_refl _), rfl, hx, fun l hl => by rw [I.tuple_inj (rd_sqT hl) (rd_sqT hqy)]; exact hy⟩, ⟨z'', ?_, ⟨.str ⟨#[c']⟩ t1, v2, ?_⟩, ?_, ?_⟩, fun c hcm => ?_⟩
    · exact (sb.2 _ D.TIz).trans (hk _ _ D.TIz D.TITO D.TIi1 D.TIi2 hTI)
    · exact (sb.2 _ D.TOz).trans TO'
    · obtain ⟨o, ho, r⟩ := h1'
      exact ⟨o, (sb.2 _ (Ne.symm D.zi1)).trans ho, r⟩
    · exact h2'.1.at fun o q => (sb.2 _ (Ne.symm D.zi2)).trans q
    · have hlt : c < s.heap.objs.size := by
        have e' : c = z ∨ c = TI ∨ c = TO ∨ c = i1 ∨ c = i2 := by simpa using hcm
        rcases e' with q | q | q | q | q
        · rw [q]; exact hzl
        · rw [q]; exact Heap.lt_size hTI
        · rw [q]; exact Heap.lt_size hTO
        · rw [q]; obtain ⟨_, e1, _⟩ := h1; exact Heap.lt_size e1
        · rw [q]; obtain ⟨_, e2, _⟩ := h2; exact Heap.lt_size e2
      rw [upd_ne (Nat.ne_of_lt hlt)]
      exact (hf c hcm).1
  done := by
    intro X hP hw hK hc i pins s σ H E I hf st hg
    subst hP hw hK
    obtain ⟨hz, hTI, ⟨x0, y0, hTO⟩, h1, h2⟩ := st
    obtain ⟨ys, hqy, hi1, hi2, hend⟩ := hg
    obtain ⟨its2, rv2, p2, _⟩ := I.tuple (rd_sqT hqy)
    have l2 := rv2.length
    have hp2 : s.heap.IsTuple b its2.toArray := p2
    have nb : ∀ c, c ∈ [z, TI, TO, i1, i2] → c ≠ b := fun c hc e => by
      have q := (hf c hc).1
      rw [e] at q
      rcases hqy with h | ⟨o, h⟩ <;> rw [h] at q <;> cases q
    have S := zs_sep D (nb z (by simp)) (nb TO (by simp)) (nb i1 (by simp))
    have hh : X.A.in1.handled = none := I.ok.hd hc
    have sz : its2.toArray.size = ys.length := by rw [List.size_toArray, ← l2]
    exact wpAny_pyNext_zipD2_end S (Draws.text (A := X.A.in1) hh i1 x tk0) (Draws.tuple (A := X.A.in1) hh i2 b (Ne.symm (nb i2 (by simp))) its2.toArray) hz hTI hTO h1 ⟨h2, hp2⟩ hi1 (by omega) (by omega)
      fun h' tk hk => ⟨rfl, I.turnedL (t' := tk) (ch := [z, TI, TO, i1, i2]) (fun c o hb q => hk c o (fun q' => hb (by simp [q'])) (fun q' => hb (by simp [q'])) (fun q' => hb (by simp [q'])) (fun q' => hb (by simp [q'])) q) hf⟩
  self := fun A i s Q E st h => wpAny_pyIter_zip st.1 h
def iZipS (K : PySem.W.Frag) (ta : L2.TA) : TI := fun σ H R => ta σ H fun vs H1 => ∃ z b ys, vs = [.str z, .ref b] ∧ Rd H1 b (.tup ys) ∧ R (ItzS K z b) H1
theorem pi_zipS {X : Cx} {e e2 : Expr} {ta : L2.TA} {p pos tpos : Pos} {elts : List Expr} {kk : Nat} (hg : L2.Gl X "zip") (hm : X.mg "zip" = none) (ha : PA X [e, e2] ta)
    (hs : starEach [e, e2] X.env = (false, eval e X.env) :: starEach [e2] X.env := by rfl) (hpl : (backTo pos (starEach [e2] X.env)).any (·.1) = false := by rfl) :
    PI X (.Tuple elts kk tpos) (.Call (.Name "zip" p) [e, e2] [] pos) (iZipS X.K ta) := by
  refine ⟨fun pins s σ H R I h => ?_⟩
  refine Call_ (ld_blt I hg hm PyProof.Rows.boot_zip (PyProof.Rows.callWith_type1 (thn (ha.run pos pins s σ H _ I h) fun us s1 ⟨vs, H1, I1, r1, q1⟩ => ?_) hs hpl))
  obtain ⟨z, b, ys, ex, hqy, q⟩ := q1
  subst ex
  cases r1 with
  | cons r rr =>
    cases rr with
    | cons r' rr =>
      cases rr
      obtain ⟨tk0, rfl⟩ := r
      cases r'
      have fresh5 : ∀ c, c ∈ [s1.heap.objs.size + 4, s1.heap.objs.size + 2, s1.heap.objs.size + 3, s1.heap.objs.size, s1.heap.objs.size + 1] → FpOk X pins H1 c := fun c hcm => by
        have e' : c = s1.heap.objs.size + 4 ∨ c = s1.heap.objs.size + 2 ∨ c = s1.heap.objs.size + 3 ∨ c = s1.heap.objs.size ∨ c = s1.heap.objs.size + 1 := by simpa using hcm
        have hle : s1.heap.objs.size ≤ c := by
          rcases e' with z | z | z | z | z
          · rw [z]; exact Nat.le_add_right _ _
          · rw [z]; exact Nat.le_add_right _ _
          · rw [z]; exact Nat.le_add_right _ _
          · rw [z]; exact Nat.le_refl _
          · rw [z]; exact Nat.le_add_right _ _
        exact I1.fpOk hle (I1.hok.fresh hle)
      obtain ⟨its2, rv2, p2, _⟩ := I1.tuple (rd_sqT hqy)
      refine call_zipS (show s1.heap.IsTuple b its2.toArray from p2) fun h' hz hTI hTO h1 h2 hk => wpAny_pyIter_zip hz ?_
      have I2 : Inv X pins σ H1 { s1 with heap := h' } := I1.kept (t' := s1.toks) hk
      have ap : ZsAp (s1.heap.objs.size + 4) (s1.heap.objs.size + 2) (s1.heap.objs.size + 3) s1.heap.objs.size (s1.heap.objs.size + 1) := by
        constructor <;> (intro e; have e' : (_ : Nat) = _ := e; omega)
      exact ⟨s1.heap.objs.size + 4, [s1.heap.objs.size + 4, s1.heap.objs.size + 2, s1.heap.objs.size + 3, s1.heap.objs.size, s1.heap.objs.size + 1], _, _, H1, rfl, I2, turn_zipS ap, ⟨hz, hTI, ⟨_, _, hTO⟩, h1, h2⟩, fresh5, q⟩
theorem walk_zipS {K : PySem.W.Frag} {b : Addr} {z : Str} {ys : List V} {n : Nat} (hn : n = min z.cps.size ys.length) : Walk (ItzS K z b) n (fun H => Rd H b (.tup ys)) (YPair (fun i => z.cps[i]?.map fun c => .str ⟨#[c]⟩) (fun i => ys[i]?)) := by
  subst hn
  refine ⟨fun i _ hi q => ?_, fun _ q => ⟨ys, q, by omega, by omega, by omega⟩, fun i H v H' _ q y => ?_⟩
  · have h1 : i < z.cps.size := by omega
    have h2 : i < ys.length := by omega
    exact ⟨ys, z.cps[i], ys[i], q, by simp [h1], by simp [h2]⟩
  · obtain ⟨T, c, y, h1, h2, h3, h4, h5⟩ := y
    exact ⟨T, .str ⟨#[c]⟩, y, h1, h2, h3, by simp [h4], h5 ys q⟩
end K0

/-! ## P7 -/
set_option maxRecDepth 100000
set_option maxHeartbeats 2000000
namespace K0
open PySem PySem.Spec PyProof.Rows L2 Builtin
/-! ### tuples compared with what is no tuple -/
section
variable {prog : Program} {w : World} {A : Around} {E : Value → Shared → Prop} {s : Shared} {K : PySem.W.Frag} {t x d C f : Addr} {items : Array Value} {ox : Obj} {od : Option Obj}
/-- x is asked whether it is a tuple: no -/
def NoTup (M : Model) (s : Shared) (x : Value) : Prop := ∀ (A : Around) (Q : Bool → Shared → Prop) (E : Value → Shared → Prop), Q false s → wpAny M A (isInstance x (.type "tuple")) Q E s
theorem noTup_dict (h : s.TypeIs (.ref d) "dict") : NoTup (model prog w) s (.ref d) := fun A Q E q => wpAny_isInstance (T := "dict") (b := false) h (by rw [isSubtype_type]; kernel_rfl) q
theorem noTup_ins (X : K.In s.heap) (I : PySem.W.InstAt s.heap x ox C od) (hm : PySem.W.mroIn K C (.type "tuple") = some false) : NoTup (model prog w) s (.ref x) := fun A Q E q => by
  unfold isInstance
  exact wpAny_bind (I.type.here ((PySem.W.looks_mroIn X hm).here q))
theorem tupEq_decl {v : Value} {P : PySem.Fin → Shared → Prop} (ht : s.heap.IsTuple t items) (hi : NoTup (model prog w) s v) (hq : P (.done (.ret .notImplemented)) s) : wpAny (model prog w) A (Builtin.«tuple.__eq__» ⟨[.ref t, v], []⟩) P E s := by
  show wpAny _ _ (slotArgs "__eq__" 1 ⟨[.ref t, v], []⟩ >>= _) _ _ _
  refine wpAny_bind (m := slotArgs "__eq__" 1 _) (wpAny_pure ?_)
  dsimp only
  refine wpAny_bind (hi _ _ _ ?_)
  refine PySem.W.KFB.if_so rfl ?_
  exact wpAny_pure hq
theorem try_tup {v : Value} (ht : s.heap.IsTuple t items) (hi : NoTup (model prog w) s v) : wpAny (model prog w) A (tryCompare (.ref t) "__eq__" v) (fun r s' => r = none ∧ s' = s) E s := by
  have hT : s.TypeIs (.ref t) "tuple" := ht.typeIs
  refine wpAny_tryCompare_declines hT F.slot_tuple_eq (wpAny_call_entry F.slot_tuple_eq hT F.entry_tuple_eq (tupEq_decl ht hi ⟨_, rfl, rfl, rfl, rfl⟩) (F.args_tuple_eq_2 _ _))
/-- a tuple is none of such -/
theorem tup_eq_ins {Q : Value → Shared → Prop} (hu : A.units < cLine) (X : K.In s.heap) (ht : s.heap.IsTuple t items) (I : PySem.W.InstAt s.heap x ox C od) (hm : PySem.W.mroIn K C (.type "tuple") = some false)
    (hs : PySem.W.findIn K (.ref C) "__eq__" = some (some (.ref f))) (hf : PySem.W.isFn K (.ref f) = true) (h : wpAny (model prog w) A (call (.ref f) [.ref x, .ref t]) (PySem.W.CmpBack Q) E s) : wpAny (model prog w) A (richCompare .Eq (.ref t) (.ref x)) Q E s := by
  have two : wpAny (model prog w) A (tryCompare (.ref x) "__eq__" (.ref t)) (fun r s' => ∃ v, r = some v ∧ Q v s') E s := by
    unfold tryCompare
    refine wpAny_bind (PySem.W.ifBound_K X I hs hf (wpAny_mono h (fun v s' hv => ?_) fun _ _ e => e))
    cases v <;> first | exact hv.elim | exact wpAny_pure ⟨_, rfl, hv⟩
  have hT : s.TypeIs (.ref t) "tuple" := ht.typeIs
  simp only [richCompare, cmpInfo_Eq, oneThing_ref]
  refine wpAny_holding (wpAny_bind (wpAny_cRoomFor hu ?_))
  refine wpAny_bind (wpAny_typeOf hT ?_)
  refine wpAny_bind (I.type.here ?_)
  split
  · refine wpAny_bind ((PySem.W.looks_mroIn X hm).here ?_)
    simp only [Bool.false_eq_true, if_false, Bool.not_false, if_true]
    refine wpAny_bind (m := tryCompare (.ref t) _ (.ref x)) (wpAny_mono (try_tup ht (noTup_ins X I hm)) (fun r s1 z => ?_) fun _ _ e => e)
    obtain ⟨z1, z2⟩ := z
    subst z1
    subst z2
    refine wpAny_bind (m := tryCompare (.ref x) _ (.ref t)) (wpAny_mono two (fun r s2 z => ?_) fun _ _ e => e)
    obtain ⟨v, rfl, hq⟩ := z
    exact wpAny_pure hq
  · rename_i q
    exact absurd (by simp) q
theorem dictEq_decl {P : PySem.Fin → Shared → Prop} (hd : s.TypeIs (.ref d) "dict") (ht : s.heap.IsTuple t items) (hq : P (.done (.ret .notImplemented)) s) : wpAny (model prog w) A (Builtin.«dict.__eq__» ⟨[.ref d, .ref t], []⟩) P E s := by
  have hT : s.TypeIs (.ref t) "tuple" := ht.typeIs
  have f : isSubtype (.type "tuple") (.type "dict") = pure false := by rw [isSubtype_type]; kernel_rfl
  obtain ⟨hp, g, dd, tk, os⟩ := s
  wp_walk
  exact hq
/-- a tuple is no dict -/
theorem tup_eq_dict {Q : Value → Shared → Prop} (hu : A.units < cLine) (ht : s.heap.IsTuple t items) (hd : s.TypeIs (.ref d) "dict") (h : Q (.bool false) s) (hne : ∀ {M : Model} {A : Around} {E : Value → Shared → Prop} {Q : Bool → Shared → Prop}, Q false s → wpAny M A (isSame (.ref t) (.ref d)) Q E s) : wpAny (model prog w) A (richCompare .Eq (.ref t) (.ref d)) Q E s := by
  have hT : s.TypeIs (.ref t) "tuple" := ht.typeIs
  have two : wpAny (model prog w) A (tryCompare (.ref d) "__eq__" (.ref t)) (fun r s' => r = none ∧ s' = s) E s :=
    wpAny_tryCompare_declines hd F.slot_dict_eq (wpAny_call_entry F.slot_dict_eq hd F.entry_dict_eq (dictEq_decl hd ht ⟨_, rfl, rfl, rfl, rfl⟩) (F.args_dict_eq_2 _ _))
  have f : isSubtype (.type "dict") (.type "tuple") = pure false := by rw [isSubtype_type]; kernel_rfl
  simp only [richCompare, cmpInfo_Eq, oneThing_ref]
  refine wpAny_holding (wpAny_bind (wpAny_cRoomFor hu ?_))
  refine wpAny_bind (wpAny_typeOf hT ?_)
  refine wpAny_bind (wpAny_typeOf hd ?_)
  split
  · refine wpAny_bind (wpAny_of_eq f ?_)
    simp only [Bool.false_eq_true, if_false, Bool.not_false, if_true]
    refine wpAny_bind (m := tryCompare (.ref t) _ (.ref d)) (wpAny_mono (try_tup ht (noTup_dict hd)) (fun r s1 z => ?_) fun _ _ e => e)
    obtain ⟨z1, z2⟩ := z
    subst z1
    subst z2
    refine wpAny_bind (m := tryCompare (.ref d) _ (.ref t)) (wpAny_mono two (fun r s2 z => ?_) fun _ _ e => e)
    obtain ⟨z1, z2⟩ := z
    subst z1
    subst z2
    exact wpAny_bind (wpAny_rule (wpAny_bind (hne (wpAny_pure h))))
  · rename_i q
    exact absurd (by decide) q
end
/-! ### x in t, t a tuple of tuples, x a dict or an object with an own == that says no -/
section
variable {X : Cx} {CX : CXT} {n : Nat} {C g : Addr} {sp : Sp} {E : XK}
/-- the def at g, called at (x, y), says no -/
def SaysNo (sp : Sp) (E : XK) (H0 : Hp) (x y : V) : Prop := ∀ H, Same H0 H → sp [x, y] H (fun v H' => v = .bl false ∧ Same H H') E
theorem contains_no {prog : Program} {w : World} {A : Around} {E : Value → Shared → Prop} {s : Shared} {l : Addr} {items : Array Value} {x : Value} {I : Shared → Prop} {P : PySem.Fin → Shared → Prop} (hl : s.heap.IsTuple l items) (h0 : I s)
    (turn : ∀ y, y ∈ items → ∀ s', I s' → wpAny (model prog w) A (eqBool y x) (fun b s2 => b = false ∧ I s2) E s') (fin : ∀ s', I s' → P (.done (.ret (.bool false))) s') :
    wpAny (model prog w) A (Builtin.«tuple.__contains__» ⟨[.ref l, x], []⟩) P E s := by
  show wpAny _ _ (Builtin.Tuple.tupleItemsOf (.ref l) >>= _) _ _ s
  refine wpAny_bind (tupleItemsOf_ hl ?_)
  refine wpAny_bind (MeetsSeq2.wpAny_forIn_array _ (fun rest b s' => b.1 = none ∧ I s' ∧ ∀ y ∈ rest, y ∈ items) _ ?_ ?_ items _ ⟨rfl, h0, fun y hy => by simpa using hy⟩)
  · rintro y rest b s' ⟨hb, hI, hm⟩
    refine wpAny_bind (wpAny_mono (turn y (hm y List.mem_cons_self) s' hI) (fun r s2 z => ?_) fun _ _ e => e)
    obtain ⟨rfl, hI2⟩ := z
    exact wpAny_pure ⟨rfl, hI2, fun z hz => hm z (List.mem_cons_of_mem _ hz)⟩
  · rintro ⟨b1, b2⟩ s' ⟨hb, hI, _⟩
    simp only at hb
    subst hb
    exact wpAny_pure (fin s' hI)
end
section
variable {X : Cx} {CX : CXT} {n : Nat} {C g : Addr} {sp : Sp} {E : XK}
def rInNo (K : PySem.W.Frag) (C : Addr) (sp : Sp) (E : XK) : R2 := fun x y H Q => ∃ (a b : Addr) (ts : List Addr), x = .ref a ∧ y = .ref b ∧ SqT K H b (ts.map V.ref) ∧ (∀ t ∈ ts, ∃ xs, SqT K H t xs) ∧ (∀ t ∈ ts, t ≠ a) ∧
  ((∃ kvs, H a = some (.dK kvs)) ∨ (∃ dx fs, H a = some (.ins C dx fs) ∧ ∀ t ∈ ts, SaysNo sp E H (.ref a) (.ref t))) ∧ ∀ H', Same H H' → Q (.bl false) H'
theorem op_inNo (hm : PySem.W.mroIn X.K C (.type "tuple") = some false) (hs : PySem.W.findIn X.K (.ref C) "__eq__" = some (some (.ref g))) (hf : PySem.W.isFn X.K (.ref g) = true) (G : FnR X.prog X.w X.K X.mg X.base CX n g sp)
    (hr : Room (n + 1) X.A) (hx : Passes CX X E) : OpR X (compareOp .In) (rInNo X.K C sp E) := by
  intro pins s σ H x y v u Q I rx ry h
  obtain ⟨a, b, ts, rfl, rfl, hb, htt, hna, hk, q⟩ := h
  cases (show v = Value.ref a from rx)
  cases (show u = Value.ref b from ry)
  obtain ⟨its, rv, p, hz⟩ := I.tuple hb
  have hl : s.heap.IsTuple b its.toArray := p
  have hT : s.TypeIs (.ref b) "tuple" := hl.typeIs
  show wpAny _ _ (contains (.ref b) (.ref a) >>= fun r => pure (Value.bool r)) _ _ _
  refine wpAny_bind (wpAny_contains_slot hT PySem.F.slot_tuple_contains (wpAny_call_entry PySem.F.slot_tuple_contains hT PySem.F.entry_tuple_contains (contains_no (I := fun s' => ∃ H', Inv X pins σ H' s' ∧ Same H H') hl ⟨H, I, Same.rfl'⟩ ?_ ?_) (PySem.F.args_tuple_contains_2 _ _)))
  · rintro y hy s' ⟨H', I', sm⟩
    have hy' : y ∈ its := by simpa using hy
    obtain ⟨i, hi, ei⟩ := List.getElem_of_mem hy'
    obtain ⟨t, hti, rt⟩ : ∃ t, t ∈ ts ∧ y = Value.ref t := by
      have hlen := rv.length
      rw [List.length_map] at hlen
      have hi' : i < ts.length := by omega
      obtain ⟨u', hu', ru'⟩ := rv.get (i := i) (x := V.ref ts[i]) (by simp [hi'])
      rw [List.getElem?_eq_getElem hi] at hu'
      cases (Option.some.inj hu')
      exact ⟨_, List.getElem_mem hi', by rw [← ei]; exact ru'⟩
    subst rt
    obtain ⟨xs, hxs⟩ := htt t hti
    obtain ⟨its2, rv2, p2, _⟩ := I'.tuple (seqT sm hxs)
    have ht : s'.heap.IsTuple t its2.toArray := p2
    have ne := hna t hti
    refine GQ.eqBool_refG ne ?_
    rcases hk with ⟨kvs, hd⟩ | ⟨dx, fs, ha, no⟩
    · obtain ⟨_, _, vs, _, o, es, ep, h1, h2, _⟩ := (show ObjOk X.prog X.w H' s'.heap a (.dK kvs) from I'.hok a _ (sm _ _ hd))
      refine tup_eq_dict hr.in1.units0 ht ⟨o, h1, h2.1⟩ ⟨false, rfl, rfl, H', I', sm⟩ fun {M A E Q} qq => ?_
      obtain ⟨o2, e2, _⟩ := ht
      exact SeqAt.wpAny_isSame_ref_other' ne e2 h1 (by rw [h2.1]; intro z; injection z with z; exact absurd z (by decide)) qq
    · obtain ⟨mA, J, _⟩ := ins_get I'.hok (sm _ _ ha)
      obtain ⟨od, J, _⟩ := J.look
      refine tup_eq_ins hr.in1.units0 I'.kIn ht J hm hs hf ?_
      refine wpAny_mono (wpAny_call (SlX.run_at (us := [.ref a, .ref t]) (ws := [.ref a, .ref t]) G hr.in1 I'.env0.in1 hx I' (.cons rfl (.cons rfl .nil)) (no t hti H' sm))) (fun w s2 z => ?_) fun _ _ x => x
      obtain ⟨z', H2, I2, rz, ez, s3⟩ := z
      subst ez
      cases (show w = Value.bool false from rz)
      exact ⟨false, rfl, rfl, H2, I2, Same.tr sm s3⟩
  · rintro s' ⟨H', I', sm⟩
    exact ⟨_, rfl, wpAny_truthy_bool (wpAny_pure ⟨.bl false, H', I', rfl, q H' sm⟩)⟩
end
end K0

/-! ## R7 -/
set_option maxRecDepth 100000
set_option maxHeartbeats 2000000
namespace K0
open PySem L2 NS RZ
theorem u65 {k : Nat} {A : Around} (r : Room k A) : A.units + 65 < cLine := by have := r.un; omega
theorem Cls.mem {H : Hp} : ∀ {ts : List Addr} {cs : List CL}, Cls H ts cs → ∀ t ∈ ts, ∃ c ∈ cs, ClA H t c
  | _, _, .nil, t, h => by cases h
  | _, _, .cons h r, t, ht => by
    rcases List.mem_cons.mp ht with e | e
    · exact ⟨_, List.mem_cons_self, by rw [e]; exact h⟩
    · obtain ⟨c, hc, q⟩ := r.mem t e
      exact ⟨c, List.mem_cons_of_mem _ hc, q⟩
theorem OpR_or {X : Cx} {f : Value → Value → Sem Value} {r1 r2 : R2} (h1 : OpR X f r1) (h2 : OpR X f r2) : OpR X f (fun x y H Q => r1 x y H Q ∨ r2 x y H Q) := by
  intro pins s σ H x y v u Q I rx ry h
  rcases h with h | h
  · exact h1 pins s σ H x y v u Q I rx ry h
  · exact h2 pins s σ H x y v u Q I rx ry h
/-! ### == of questions -/
structure TIs (K : PySem.W.Frag) (C : Addr) : Prop where
  ha : PySem.W.findIn K (.ref C) "__class__" = some (some (.builtin "object.__class__"))
  hn : PySem.W.specialIn K (.builtin "object.__class__") "__get__" = some (some (.builtin "getset_descriptor.__get__"))
  htk : PySem.W.takesIn K (.builtin "object.__class__") = some true
  hm : PySem.W.mroIn K C (.type "object") = some true
  yes : PySem.W.kitOne K (.ref C) (.ref C) = some true
  noT : PySem.W.kitOne K (.type "tuple") (.ref C) = some false
  noN : PySem.W.kitOne K (.type "NoneType") (.ref C) = some false
  noS : PySem.W.kitOne K (.type "str") (.ref C) = some false
def eqQ (q q2 : PQ) : Bool := decide (q.cls = q2.cls) && decide (q.asked = q2.asked)
def spQEq (K : PySem.W.Frag) (C : Addr) : Sp := fun vs H Q _ => ∃ (p : Addr) (q : PQ) (v : V), vs = [.ref p, v] ∧ QuO K C H p q ∧ WfQ q ∧
  ((∃ p2 q2, v = .ref p2 ∧ QuO K C H p2 q2 ∧ WfQ q2 ∧ Q (.bl (eqQ q q2)) H) ∨ (∃ t, TyX K H v t ∧ PySem.W.kitOne K t (.ref C) = some false ∧ Q (.bl false) H))
theorem QuO.ty {K : PySem.W.Frag} {C : Addr} {H : Hp} {p : Addr} {q : PQ} (h : QuO K C H p q) (T : TQu K C) (I : TIs K C) : TyX K H (.ref p) (.ref C) := by
  obtain ⟨tc, ta, to, td, ts, ns, U⟩ := h
  obtain ⟨dx, ep⟩ := U.ob
  exact .base (.ins ep T.cl I.ha I.hn I.htk I.hm)
theorem eqv_strs (l m : List Str) : PyData.eqv (.tuple (l.map PyData.str)) (.tuple (m.map PyData.str)) = decide (l = m) := eqvAll_strs l m
theorem eqv_clauses (l m : List CL) : PyData.eqv (.tuple (l.map dC)) (.tuple (m.map dC)) = decide (l = m) := eqv_dCs l m
section
variable {P : Program} {w : World} {K : PySem.W.Frag} {mg : Str → Option Value} {base : Heap} {C : Addr}
theorem scM23 : FnScope ["self", "other"] ["self", "other"] (defScope (sQ 23)) := ⟨rfl, rfl, rfl, by decide +kernel, rfl, by decide +kernel, by decide +kernel⟩
theorem ok_mEq {f : Addr} {fd : FuncData} (F : Fun K "__eq__" "Question.__eq__" (sQ 23) f fd) (T : TQu K C) (I : TIs K C) (isi : mg "isinstance" = none) (gQ : mg "Question" = some (.ref C)) : FnOk P w K mg base CX0 1 f fd ["self", "other"] (spQEq K C) := by
  refine F.ok scM23 (fun vs H Q E h => ?_) (fun cdv A outer s H vs Q E hr h => ?_)
  · obtain ⟨p, q, v, rfl, _⟩ := h
    rfl
  · obtain ⟨p, q, v, rfl, U0, g, h⟩ := h
    refine ⟨_, pss_one (ps_ret (pe_and (pe_callB call_isi (by rfl) isi (by decide +kernel) (pa_cons (pv 1) (pa_cons (pe_glob (v := .ref C) (by rfl) gQ rfl) pa_nil)))
      (pe_and (pe_cmpR (op_eqD hr.units) (pe_fld (pv 0) rfl) (pe_fld (pv 1) rfl) (nomark _)) (pe_one (pe_cmpR (op_eqD hr.units) (pe_fld (pv 0) rfl) (pe_fld (pv 1) rfl) (nomark _)))))), ?_⟩
    rcases h with ⟨p2, q2, rfl, U2, g2, k⟩ | ⟨t, ty, kt, k⟩
    · refine ⟨_, rfl, _, _, _, _, true, rfl, .own C, U2.ty T I, I.yes, true, rfl, if_pos_of rfl ?_⟩
      obtain ⟨tc, ta, to, td, ts, ns, U⟩ := U0
      obtain ⟨dx, ep⟩ := U.ob
      obtain ⟨tc2, ta2, to2, td2, ts2, ns2, V2⟩ := U2
      obtain ⟨dx2, ep2⟩ := V2.ob
      have e1 : eqQ q q2 = (PyData.eqv (.tuple (q.cls.map dC)) (.tuple (q2.cls.map dC)) && PyData.eqv (.tuple (q.asked.map PyData.str)) (.tuple (q2.asked.map PyData.str))) := by
        rw [eqv_clauses, eqv_strs]
        rfl
      refine ⟨.ref p, rfl, p, C, dx, _, _, rfl, ep, T.cl, T.n1, qFs_clauses _ _ _ _, .ref p2, rfl, p2, C, dx2, _, _, rfl, ep2, T.cl, T.n1, qFs_clauses _ _ _ _, _, _, .tup U.tcs U.cls.dp, .tup V2.tcs V2.cls.dp, dCs_shaped g.c.lay, dCs_shaped g2.c.lay, _, rfl, ?_⟩
      rw [e1] at k
      generalize PyData.eqv (.tuple (q.cls.map dC)) (.tuple (q2.cls.map dC)) = b1 at k ⊢
      cases b1 with
      | false => exact if_neg_of rfl k
      | true =>
        refine if_pos_of rfl ?_
        exact ⟨.ref p, rfl, p, C, dx, _, _, rfl, ep, T.cl, T.n2, qFs_asked _ _ _ _, .ref p2, rfl, p2, C, dx2, _, _, rfl, ep2, T.cl, T.n2, qFs_asked _ _ _ _, _, _, .tup (SqT.of U.tas) (dpAll_strs _), .tup (SqT.of V2.tas) (dpAll_strs _), dStrs_shaped fun k hk => nameS_ok (g.nam k hk), dStrs_shaped fun k hk => nameS_ok (g2.nam k hk), k⟩
    · exact ⟨_, rfl, _, _, t, _, false, rfl, .own C, ty, kt, false, rfl, if_neg_of rfl k⟩
/-! ### in -/
def spCont (K : PySem.W.Frag) (C : Addr) : Sp := fun vs H Q _ => ∃ (p : Addr) (q : PQ) (v : V), vs = [.ref p, v] ∧ QuO K C H p q ∧ WfC q.cls ∧
  ((∃ d, Dp K H v d ∧ SeqAt.shaped d = true ∧ Q (.bl (q.cls.any fun c => PyData.eqv (dC c) d)) H) ∨ (∃ a, v = .ref a ∧ ((∃ kvs, H a = some (.dK kvs)) ∨ (∃ q2, QuO K C H a q2 ∧ WfQ q2)) ∧ ∀ H', Same H H' → Q (.bl false) H'))
theorem scM20 : FnScope ["self", "value"] ["self", "value"] (defScope (sQ 20)) := ⟨rfl, rfl, rfl, by decide +kernel, rfl, by decide +kernel, by decide +kernel⟩
theorem ok_mCont {f fE : Addr} {fd fdE : FuncData} (F : Fun K "__contains__" "Question.__contains__" (sQ 20) f fd) (T : TQu K C) (I : TIs K C) (nT : PySem.W.mroIn K C (.type "tuple") = some false)
    (hs : PySem.W.findIn K (.ref C) "__eq__" = some (some (.ref fE))) (hf : PySem.W.isFn K (.ref fE) = true) (GE : FnOk P w K mg base CX0 1 fE fdE ["self", "other"] (spQEq K C)) (bE : Binds K fdE ["self", "other"] []) : FnOk P w K mg base CX0 3 f fd ["self", "value"] (spCont K C) := by
  refine F.ok scM20 (fun vs H Q E h => ?_) (fun cdv A outer s H vs Q E hr h => ?_)
  · obtain ⟨p, q, v, rfl, _⟩ := h
    rfl
  · obtain ⟨p, q, v, rfl, ⟨tc, ta, to, td, ts, ns, U⟩, g, h⟩ := h
    obtain ⟨dx, ep⟩ := U.ob
    have GR : FnR P w K mg base CX0 1 fE (spQEq K C) := (GE.raw bE .nil).imp fun vs H Q E h => by rw [List.append_nil]; exact h
    refine ⟨_, pss_one (ps_ret (pe_cmpR (OpR_or (op_inDT (u65 hr)) (op_inNo nT hs hf GR hr pass0)) (pv 1) (pe_fld (pv 0) rfl) rfl)), ?_⟩
    refine ⟨v, rfl, .ref p, rfl, p, C, dx, _, _, rfl, ep, T.cl, T.n1, qFs_clauses _ _ _ _, ?_⟩
    rcases h with ⟨d, hd, sd, k⟩ | ⟨a, rfl, hk, k⟩
    · refine .inl ⟨d, _, hd, .tup U.tcs U.cls.dp, sd, dCs_shaped g.lay, ?_⟩
      rw [if_neg Bool.false_ne_true, List.any_map]
      exact k
    · refine .inr ⟨a, tc, ts, rfl, rfl, U.tcs, fun t ht => ?_, fun t ht e => ?_, ?_, k⟩
      · obtain ⟨c, _, t2, h1, _⟩ := U.cls.mem t ht
        exact ⟨_, SqT.of h1⟩
      · obtain ⟨c, _, t2, h1, _⟩ := U.cls.mem t ht
        rw [e] at h1
        rcases hk with ⟨kvs, hd⟩ | ⟨q2, ⟨tc2, ta2, to2, td2, ts2, ns2, V2⟩, g2⟩
        · rw [hd] at h1
          cases h1
        · obtain ⟨dx2, ep2⟩ := V2.ob
          rw [ep2] at h1
          cases h1
      · rcases hk with hd | ⟨q2, U2, g2⟩
        · exact .inl hd
        · obtain ⟨tc2, ta2, to2, td2, ts2, ns2, V2⟩ := id U2
          obtain ⟨dx2, ep2⟩ := V2.ob
          refine .inr ⟨dx2, _, ep2, fun t ht H' s' => ?_⟩
          obtain ⟨c, _, t2, h1, _⟩ := U.cls.mem t ht
          exact ⟨a, q2, .ref t, rfl, U2.same s', g2, .inr ⟨_, .base (.tup (s' _ _ h1)), I.noT, rfl, Same.rfl'⟩⟩
end
end K0

/-! ## Y13 -/
set_option maxRecDepth 100000
set_option maxHeartbeats 8000000
namespace K0
open PySem L2 NS RZ
/-! ### Question.__add__ -/
def spAdd (K : PySem.W.Frag) (C CQ : Addr) : Sp := fun vs H Q E => ∃ (p p2 : Addr) (q q2 : PQ), vs = [.ref p, .ref p2] ∧ QuO K C H p q ∧ WfQ q ∧ QuO K C H p2 q2 ∧ WfQ q2 ∧ ∀ cs', Srt cs' (q.cls ++ q2.cls) → Made K C CQ H Q E ⟨cs', fo (q.asked ++ q2.asked)⟩
abbrev nAdd : List Str := ["self", "other", "clauses"]
theorem scAdd : FnScope nAdd ["self", "other"] (defScope (sQ 19)) := ⟨rfl, rfl, rfl, by decide +kernel, rfl, by decide +kernel, by decide +kernel⟩
section
variable {P : Program} {w : World} {K : PySem.W.Frag} {mg : Str → Option Value} {base : Heap} {C CQ fI fF : Addr} {fdI fdF : FuncData}
theorem ok_add {f : Addr} {fd : FuncData} (F : Fun K "__add__" "Question.__add__" (sQ 19) f fd) (T : TQu K C) (I : TIs K C) (B : TFo mg) (isi : mg "isinstance" = none) (gQ : mg "Question" = some (.ref C)) (M : Mk K C fI)
    (GI : FnOk P w K mg base (L2.CX P w) 5 fI fdI ["self", "clauses", "asked"] (spInit2 K C CQ)) (bI : Binds K fdI ["self", "clauses", "asked"] [])
    (eF : Gl K mg "_first_ones" fF) (GF : FnOk P w K mg base CX0 1 fF fdF ["names"] (spFirst K)) (bF : Binds K fdF ["names"] []) : FnOk P w K mg base (L2.CX P w) 7 f fd ["self", "other"] (spAdd K C CQ) := by
  refine F.okX scAdd (fun vs H Q E h => ?_) (fun cdv A outer s H vs Q E hr h => ?_)
  · obtain ⟨p, p2, q, q2, rfl, _⟩ := h
    rfl
  · obtain ⟨p, p2, q, q2, rfl, qo, g, qo2, g2, k⟩ := h
    have hr1 : Room 1 _ := hr.mono (by decide)
    refine ⟨_, pss_cons (ps_if (pt_not (pt_val (pe_callB call_isi (by rfl) isi (by decide +kernel) (pa_cons (pv 1) (pa_cons (pe_glob (v := .ref C) (by rfl) gQ rfl) pa_nil))))) (pss_one ps_never) pss_nil)
      (pss_cons (ps_set (i := 2) scAdd.nd rfl (Or.inl rfl) (pe_callB (cr_sortSet rfl hr.units) (by rfl) B.srt (by decide +kernel) (pa_cons (pe_callTy (cr_setOf rfl hr.units) (by rfl) B.set (by decide +kernel) (pa_cons (pe_lst (StX.pa_star (pe_fld (pv 0) rfl) (StX.pa_star (pe_fld (pv 1) rfl) pa_nil))) pa_nil)) pa_nil)))
      (pss_one (ps_ret (pe_make M GI hr (by rfl) gQ bI .nil (passes_call (takes_of rfl rfl rfl rfl) fun _ _ _ _ h => h) (pa_cons (pe_callTy (T := "tuple") call_tuple_of (by rfl) B.tup (by decide +kernel) (pa_cons (pv 2) pa_nil))
        (pa_cons (pe_call (E := E0) GF hr1 (by rfl) eF.g eF.k bF .nil pass0 (pa_cons (pe_lst (StX.pa_star (pe_fld (pv 0) rfl) (StX.pa_star (pe_fld (pv 1) rfl) pa_nil))) pa_nil)) pa_nil)))))), ?_⟩
    refine ⟨_, rfl, _, _, _, _, true, rfl, .own C, qo2.ty T I, I.yes, true, rfl, if_neg_of rfl ?_⟩
    obtain ⟨tc, ta, to, td, ts, ns, U⟩ := id qo
    obtain ⟨dx, ep⟩ := U.ob
    obtain ⟨tc2, ta2, to2, td2, ts2, ns2, V2⟩ := id qo2
    obtain ⟨dx2, ep2⟩ := V2.ob
    have l1 : ts.length = q.cls.length := U.cls.len
    have l2 : ts2.length = q2.cls.length := V2.cls.len
    have q8 := g.c.few
    have q82 := g2.c.few
    have a8 := g.few
    have a82 := g2.few
    refine ⟨.ref p, rfl, p, C, dx, _, _, rfl, ep, T.cl, T.n1, qFs_clauses _ _ _ _, tc, _, rfl, .inl U.tcs, .ref p2, rfl, p2, C, dx2, _, _, rfl, ep2, T.cl, T.n1, qFs_clauses _ _ _ _, tc2, _, rfl, .inl V2.tcs, ?_, fun D hD => ?_⟩
    · simp only [List.length_append, List.length_map, List.length_nil]
      rw [sizeLine_eq]
      omega
    have sD := K0.Same.new (.lst (ts.map V.ref ++ (ts2.map V.ref ++ []))) hD
    have eD : upd H D (.lst (ts.map V.ref ++ (ts2.map V.ref ++ []))) D = some (.lst ((ts ++ ts2).map V.ref)) := by rw [List.append_nil, ← List.map_append]; exact upd_same
    generalize upd H D (.lst (ts.map V.ref ++ (ts2.map V.ref ++ []))) = H1 at sD eD ⊢
    have hcl : Cls H1 (ts ++ ts2) (q.cls ++ q2.cls) := (cls_app U.cls V2.cls).same sD
    obtain ⟨r1, r2, r3⟩ := rowsC_all hcl
    have rl : (rowsC (ts ++ ts2) (q.cls ++ q2.cls)).length ≤ 16 := by
      have z := congrArg List.length r1
      rw [List.length_map, List.length_append] at z
      omega
    refine ⟨D, rowsC (ts ++ ts2) (q.cls ++ q2.cls), rfl, ?_, fun m hm => ?_, by omega, fun S M hS sub all nd => ?_⟩
    · have e : (rowsC (ts ++ ts2) (q.cls ++ q2.cls)).map (fun m => V.ref m.1) = (ts ++ ts2).map V.ref := by
        have z := congrArg (List.map V.ref) r1
        rw [List.map_map] at z
        exact z
      rw [e]
      exact SqL.of eD
    · obtain ⟨c, e, h⟩ := r3 m hm
      have z := h.kr (K := K)
      rw [← e] at z
      exact z
    have sS : Same H1 (upd H1 S (SetN w S M)) := K0.Same.new _ hS
    have mem : ∀ m ∈ M, ∃ c, m.2 = keyC c ∧ ClA H1 m.1 c := fun m hm => r3 m (sub m hm)
    refine ⟨S, M, 2, rfl, upd_same, fun m hm => ?_, lined_cls fun m hm => ?_, fun M' lq pm pw hq => ?_⟩
    · obtain ⟨c, e, h⟩ := mem m hm
      have z := (h.same sS).kr (K := K)
      rw [← e] at z
      exact z
    · obtain ⟨c, e, _⟩ := mem m hm
      exact ⟨c, e⟩
    have sQ : Same (upd H1 S (SetN w S M)) (upd (upd H1 S (SetN w S M)) lq (.lst (M'.map fun m => V.ref m.1))) := K0.Same.new _ hq
    obtain ⟨cs', c1, c2⟩ := rows_cls (H := H1) M' fun m hm => mem m (pm.mem_iff.mp hm)
    have srt : Srt cs' (q.cls ++ q2.cls) := by
      refine ⟨pair_map ?_, fun c => ?_⟩
      · rw [c2]
        exact List.pairwise_map.mpr pw
      · have key : keyC c ∈ cs'.map keyC ↔ keyC c ∈ (q.cls ++ q2.cls).map keyC := by
          rw [c2, ← r2, (pm.map (·.2)).mem_iff]
          constructor
          · intro z
            obtain ⟨m, hm, e⟩ := List.mem_map.mp z
            exact List.mem_map.mpr ⟨m, sub m hm, e⟩
          · intro z
            obtain ⟨m, hm, e⟩ := List.mem_map.mp z
            rw [← e]
            exact all m hm
        have inj : ∀ l : List CL, c ∈ l ↔ keyC c ∈ l.map keyC := fun l => ⟨fun z => List.mem_map.mpr ⟨c, z, rfl⟩, fun z => by
          obtain ⟨c', hc', e⟩ := List.mem_map.mp z
          rw [← keyC_inj e]
          exact hc'⟩
        rw [inj cs', inj (q.cls ++ q2.cls)]
        exact key
    obtain ⟨m1, m2⟩ := k cs' srt
    refine ⟨_, rfl, lq, _, rfl, .inl ⟨SqL.of upd_same, fun tq htq => ?_⟩⟩
    have sT := K0.Same.new (.tup (M'.map fun m => V.ref m.1)) htq
    have s1T := K0.Same.tr sS (K0.Same.tr sQ sT)
    have s0T := K0.Same.tr sD s1T
    have UT := U.same s0T
    have VT := V2.same s0T
    refine ⟨.ref p, rfl, p, C, dx, _, _, rfl, s0T _ _ ep, T.cl, T.n2, qFs_asked _ _ _ _, ta, _, rfl, .inl (SqT.of UT.tas), .ref p2, rfl, p2, C, dx2, _, _, rfl, s0T _ _ ep2, T.cl, T.n2, qFs_asked _ _ _ _, ta2, _, rfl, .inl (SqT.of VT.tas), ?_, fun l hl => ?_⟩
    · simp only [List.length_append, List.length_map, List.length_nil]
      rw [sizeLine_eq]
      omega
    have sl := K0.Same.new (.lst (q.asked.map V.str ++ (q2.asked.map V.str ++ []))) hl
    have el : ∀ H' : Hp, upd H' l (.lst (q.asked.map V.str ++ (q2.asked.map V.str ++ []))) l = some (.lst ((q.asked ++ q2.asked).map V.str)) := fun H' => by rw [List.append_nil, ← List.map_append]; exact upd_same
    refine ⟨l, q.asked ++ q2.asked, rfl, SqL.of (el _), by rw [List.length_append]; omega, fun tf H6 s6 htf etf => ?_⟩
    intro x dx3 nx ndx nex
    have s7 : Same H6 (upd (upd H6 dx3 (.own x)) x (.ins C dx3 [])) := fun c o e => by
      rw [upd_ne (ne_of_none e nx), upd_ne (ne_of_none e ndx)]
      exact e
    have sA := K0.Same.tr s0T (K0.Same.tr sl s6)
    have s17 := K0.Same.tr s1T (K0.Same.tr sl (K0.Same.tr s6 s7))
    have etq : ∀ H' : Hp, upd H' tq (.tup (M'.map fun m => V.ref m.1)) tq = some (.tup ((M'.map (·.1)).map V.ref)) := fun H' => by rw [List.map_map]; exact upd_same
    obtain ⟨pool, p1, p2'⟩ := g.c.cols
    obtain ⟨pool2, p3, p4⟩ := g2.c.cols
    have goods : ∀ d ∈ q.cls ++ q2.cls, GoodC d := fun d hd => (List.mem_append.mp hd).elim (fun z => g.clause z) fun z => g2.clause z
    have pq : PreQ ⟨cs', fo (q.asked ++ q2.asked)⟩ := pre_more g (L := q.cls ++ q2.cls) (by rw [List.length_append]; omega) goods (pool := pool ++ pool2) (by rw [List.length_append]; omega) (fun d hd k hk => (List.mem_append.mp hd).elim (fun z => List.mem_append_left _ (p2' d z k hk)) fun z => List.mem_append_right _ (p4 d z k hk)) srt (fo_nodup _)
      (fun k hk => (List.mem_append.mp ((fo_mem _ _).mp hk)).elim (fun z => g.nam k z) fun z => g2.nam k z) (Nat.le_trans (fo_len _) (by rw [List.length_append]; omega))
    refine ⟨x, dx3, tq, tf, M'.map (·.1), ⟨cs', fo (q.asked ++ q2.asked)⟩, rfl, upd_same, SqT.of ((K0.Same.tr sl (K0.Same.tr s6 s7)) _ _ (etq _)), c1.same s17, s7 _ _ etf, pq, fun wf H' tc' ta' to' td' ns3 e U' kd => ⟨rfl, ?_⟩, fun no H' s' => m2 no H' (K0.Same.tr sA (K0.Same.tr s7 s'))⟩
    refine m1 wf x H' (fun c o e => ?_) ⟨tc', ta', to', td', _, ns3, U'⟩
    have e6 := sA _ _ e
    have n1 := ne_of_none e6 nx
    refine kd c o n1 ?_
    rw [upd_ne n1, upd_ne (ne_of_none e6 ndx)]
    exact e6
end
end K0

/-! ## Y14 -/
set_option maxRecDepth 100000
set_option maxHeartbeats 4000000
namespace K0
open PySem L2 NS RZ
/-! ### the law's first ones -/
abbrev sLFo : Stmt := top 51
def spLFo (K : PySem.W.Frag) : Sp := fun vs H Q _ => ∃ (a : Addr) (L : List Str), vs = [.ref a] ∧ SqL K H a (L.map V.str) ∧ L.length ≤ 1000 ∧ ∀ l H', Same H H' → H l = none → H' l = some (.lst ((fo L).map V.str)) → Q (.ref l) H'
abbrev nLFo : List Str := ["_law_items", "_law_found", "_law_item"]
theorem scLFo : FnScope nLFo ["_law_items"] (defScope sLFo) := ⟨rfl, rfl, rfl, by decide +kernel, rfl, by decide +kernel, by decide +kernel⟩
theorem fo_take (L : List Str) (i : Nat) (x : Str) (h : L[i]? = some x) : fo (L.take (i + 1)) = fo (L.take i) ++ (if x ∈ L.take i then [] else [x]) := by
  rw [List.take_add_one, h, ← fo_snoc]
  rfl
section
variable {P : Program} {w : World} {K : PySem.W.Frag} {mg : Str → Option Value} {base : Heap}
theorem ok_lFo {f : Addr} {fd : FuncData} (F : Fun K "_law_first_ones" "_law_first_ones" sLFo f fd) : FnOk P w K mg base CX0 1 f fd ["_law_items"] (spLFo K) := by
  refine F.ok scLFo (fun vs H Q E h => ?_) (fun cdv A outer s H vs Q E hr h => ?_)
  · obtain ⟨a, L, rfl, _⟩ := h
    rfl
  · obtain ⟨a, L, rfl, hS, n1, k⟩ := h
    refine ⟨_, pss_cons (ps_set (i := 1) scLFo.nd rfl (Or.inl rfl) (pe_lst pa_nil))
      (pss_cons (ps_for PassesOwn.never rfl (pi_list (pv 0)) (pg_name (i := 2) scLFo.nd rfl (Or.inl rfl))
        (pss_one (ps_expr (pe_bm PySem.F.plainAttrs_list PySem.F.slot_list_extend PySem.F.type_list_extend mt_extend (pv 1) (pa_cons (pe_ifExp (pt_cmpR op_notIn_seq (pv 2) (pv 1) rfl) (pe_lst (pa_cons (pv 2) pa_nil)) (pe_lst pa_nil)) pa_nil)))))
      (pss_one (ps_ret (pv 1)))), ?_⟩
    refine ⟨by show 0 ≤ sizeLine; decide, fun l hl => ?_⟩
    have s0 : Same H (upd H l (.lst [])) := K0.Same.new _ hl
    refine ⟨_, rfl, a, rfl, ⟨_, s0.seq hS⟩, for_list (K := K) (a := a) (xs := L.map V.str) (fun i σ H' => (∃ u, σ = [some (.ref a), some (.ref l), u]) ∧ Same H H' ∧ H' l = some (.lst ((fo (L.take i)).map V.str)))
        ⟨⟨none, rfl⟩, s0, upd_same⟩ (fun i σ H' _ ⟨_, s1, _⟩ => s1.seq hS) ?_ ?_⟩
    · rintro i x σ H1 hx ⟨⟨u, rfl⟩, s1, hq⟩
      rw [List.getElem?_map] at hx
      obtain ⟨z, hz, rfl⟩ := Option.map_eq_some_iff.mp hx
      have lf : (fo (L.take i)).length ≤ 1000 := Nat.le_trans (fo_len _) (by rw [List.length_take]; omega)
      refine ⟨_, rfl, .inl ⟨rfl, _, SqL.of hq⟩, ?_⟩
      have st : ∀ {m : Addr} {zs : List Str}, H1 m = none → fo (L.take (i + 1)) = fo (L.take i) ++ zs → Same H (upd (upd H1 m (.lst (zs.map V.str))) l (.lst ((fo (L.take i)).map V.str ++ zs.map V.str))) ∧ (upd (upd H1 m (.lst (zs.map V.str))) l (.lst ((fo (L.take i)).map V.str ++ zs.map V.str))) l = some (.lst ((fo (L.take (i + 1))).map V.str)) := fun hm e => by
        refine ⟨fun b o eb => ?_, by rw [upd_same, e, List.map_append]⟩
        rw [upd_ne (ne_of_none eb hl), upd_ne (ne_of_none (s1 _ _ eb) hm)]
        exact s1 _ _ eb
      have step := fo_take L i z hz
      refine ⟨_, rfl, _, rfl, l, _, rfl, .inl (SqL.of hq), rfl, flat_strs _, _, rfl, ?_⟩
      rw [if_pos rfl, inV_strs]
      have em : decide (z ∈ fo (L.take i)) = decide (z ∈ L.take i) := decide_eq_decide.mpr (fo_mem _ _)
      rw [em]
      by_cases c : z ∈ L.take i
      · rw [decide_eq_true c]
        rw [if_pos c] at step
        refine if_neg_of rfl ⟨by show 0 ≤ sizeLine; decide, fun m hm => ?_⟩
        have ml : l ≠ m := ne_of_none hq hm
        obtain ⟨y1, y2⟩ := st (zs := []) hm step
        exact ⟨l, m, _, _, rfl, rfl, by rw [upd_ne ml]; exact hq, upd_same, by rw [List.length_map, sizeLine_eq]; simp only [List.length_nil]; omega, ⟨_, rfl⟩, y1, y2⟩
      · rw [decide_eq_false c]
        rw [if_neg c] at step
        refine if_pos_of rfl ⟨_, rfl, by show 1 ≤ sizeLine; decide, fun m hm => ?_⟩
        have ml : l ≠ m := ne_of_none hq hm
        obtain ⟨y1, y2⟩ := st (zs := [z]) hm step
        exact ⟨l, m, _, _, rfl, rfl, by rw [upd_ne ml]; exact hq, upd_same, by rw [List.length_map, sizeLine_eq]; simp only [List.length_cons, List.length_nil]; omega, ⟨_, rfl⟩, y1, y2⟩
    · rintro σ H1 ⟨⟨u, rfl⟩, s1, hq⟩
      rw [List.length_map, List.take_length] at hq
      exact ⟨_, rfl, k l H1 s1 hl hq⟩
end
end K0

/-! ## Y15 -/
set_option maxRecDepth 100000
set_option maxHeartbeats 4000000
namespace K0
open PySem L2 NS RZ
/-! ### images of columns -/
theorem perm_strs {ys : List V} {ns : List Str} (h : ys.Perm (ns.map V.str)) : ∃ zs : List Str, ys = zs.map V.str ∧ zs.Perm ns := by
  refine ⟨ys.map strV, ?_, ?_⟩
  · rw [List.map_map]
    have e : ∀ y ∈ ys, (V.str ∘ strV) y = y := fun y hy => by
      obtain ⟨z, _, rfl⟩ := List.mem_map.mp (h.mem_iff.mp hy)
      rfl
    have e2 : ys.map (V.str ∘ strV) = ys.map id := List.map_congr_left e
    rw [e2, List.map_id]
  · have z := h.map strV
    rw [List.map_map] at z
    have e3 : ns.map (strV ∘ V.str) = ns := List.map_id ns
    rw [e3] at z
    exact z
theorem DiceAt.off {H : Hp} {p l : Addr} (h : DiceAt H p) (hl : H l = none) : l ≠ p := by
  obtain ⟨x, y, z, e⟩ := h
  exact fun q => by rw [q, e] at hl; cases hl
theorem DiceAt.on {H H' : Hp} {p : Addr} (h : DiceAt H p) (s : Same H H') : DiceAt H' p := by
  obtain ⟨x, y, z, e⟩ := h
  exact ⟨x, y, z, s _ _ e⟩
theorem names16_good : names16.Nodup ∧ names16.length = 16 ∧ ∀ k ∈ names16, nameS k = true := by decide +kernel
abbrev sIm : Stmt := top 41
/-- the image of a name: by its place -/
def imgF (ns zs : List Str) (k : Str) : Str := zs.getD (15 - ns.idxOf k) Str.empty
def spImages : Sp := fun vs H Q _ => ∃ (p a : Addr) (ns : List Str), vs = [.ref p, .ref a] ∧ DiceAt H p ∧ a ≠ p ∧ H a = some (.lst (ns.map V.str)) ∧ ns.Nodup ∧ ns.length ≤ 8 ∧
  ∀ d f H', Kd p H H' → DiceAt H' p → H d = none → NamD H' d ns f → Inj f ns → (∀ k ∈ ns, nameS (f k) = true) → Q (.ref d) H'
theorem img_at {ns zs : List Str} (nd : ns.Nodup) (zl : zs.length = 16) (n8 : ns.length ≤ 8) {i : Nat} {x : Str} (h : ns[i]? = some x) : zs[15 - i]? = some (imgF ns zs x) := by
  obtain ⟨hi, e⟩ := List.getElem?_eq_some_iff.mp h
  have ix : ns.idxOf x = i := by rw [← e]; exact nd.idxOf_getElem i hi
  unfold imgF
  rw [ix, List.getD, List.getElem?_eq_getElem (by omega)]
  rfl
theorem img_inj {ns zs : List Str} (nd : ns.Nodup) (zd : zs.Nodup) (zl : zs.length = 16) (n8 : ns.length ≤ 8) : Inj (imgF ns zs) ns := fun x hx y hy e => by
  obtain ⟨i, hi, ei⟩ := List.getElem_of_mem hx
  obtain ⟨j, hj, ej⟩ := List.getElem_of_mem hy
  have h1 := img_at nd zl n8 (show ns[i]? = some x by rw [List.getElem?_eq_getElem hi, ei])
  have h2 := img_at nd zl n8 (show ns[j]? = some y by rw [List.getElem?_eq_getElem hj, ej])
  rw [e, ← h2] at h1
  obtain ⟨l1, g1⟩ := List.getElem?_eq_some_iff.mp h2
  have h3 : zs[15 - i]? = some zs[15 - j] := by rw [h1, List.getElem?_eq_getElem (by omega)]
  obtain ⟨l2, g2⟩ := List.getElem?_eq_some_iff.mp h3
  have z1 := zd.idxOf_getElem (15 - i) l2
  rw [g2] at z1
  have z := z1.symm.trans (zd.idxOf_getElem (15 - j) l1)
  have ij : i = j := by omega
  subst ij
  rw [← ei, ← ej]
theorem img_mem {ns zs : List Str} (nd : ns.Nodup) (zl : zs.length = 16) (n8 : ns.length ≤ 8) {x : Str} (hx : x ∈ ns) : imgF ns zs x ∈ zs := by
  obtain ⟨i, hi, ei⟩ := List.getElem_of_mem hx
  exact List.mem_of_getElem? (img_at nd zl n8 (show ns[i]? = some x by rw [List.getElem?_eq_getElem hi, ei]))
abbrev nIm : List Str := ["_law_dice_here", "_law_columns_here", "_law_pool", "_law_found", "_law_column"]
theorem scIm : FnScope nIm ["_law_dice_here", "_law_columns_here"] (defScope sIm) := ⟨rfl, rfl, rfl, by decide +kernel, rfl, by decide +kernel, by decide +kernel⟩
section
variable {P : Program} {w : World} {K : PySem.W.Frag} {mg : Str → Option Value} {base : Heap} {fM fN : Addr} {fdM fdN : FuncData}
theorem ok_images {f : Addr} {fd : FuncData} (F : Fun K "_law_images" "_law_images" sIm f fd)
    (eM : Gl K mg "_law_mixed" fM) (GM : FnOk P w K mg base CX0 2 fM fdM ["_law_dice_here", "_law_items"] spMixed) (bM : Binds K fdM ["_law_dice_here", "_law_items"] [])
    (eN : Gl K mg "_law_names" fN) (GN : FnOk P w K mg base CX0 1 fN fdN [] spNames) (bN : Binds K fdN [] []) : FnOk P w K mg base CX0 3 f fd ["_law_dice_here", "_law_columns_here"] spImages := by
  refine F.ok scIm (fun vs H Q E h => ?_) (fun cdv A outer s H vs Q E hr h => ?_)
  · obtain ⟨p, a, ns, rfl, _⟩ := h
    rfl
  · obtain ⟨p, a, ns, rfl, hp, hap, ha, nd, n8, k⟩ := h
    have hr1 : Room 1 _ := hr.mono (by decide)
    refine ⟨_, pss_cons (ps_par (i := 2) (j := 3) rfl scIm.nd rfl rfl (by decide) rfl rfl (pa_cons (pe_call GM hr (by rfl) eM.g eM.k bM .nil pass0 (pa_cons (pv 0) (pa_cons (pe_call0 GN hr1 (by rfl) eN.g eN.k bN .nil pass0) pa_nil))) (pa_cons pe_dnewK pa_nil)) rfl)
      (pss_cons (ps_for PassesOwn.never rfl (pi_list (pv 1)) (pg_name (i := 4) scIm.nd rfl (Or.inl rfl))
        (pss_one (ps_dput (lt1 hr.units) (pv 3) (pv 4) (pe_bm0 PySem.F.plainAttrs_list PySem.F.slot_list_pop PySem.F.type_list_pop mt_pop (pv 2)) (by rfl))))
      (pss_one (ps_ret (pv 3)))), ?_⟩
    refine ⟨_, rfl, rfl, fun l hl => ?_⟩
    have s0 := K0.Same.new (.lst (names16.map V.str)) hl
    refine ⟨p, l, _, rfl, hp.on s0, hp.off hl, upd_same, by decide, fun ys m H1 pm hm em kd1 dc1 => ?_⟩
    obtain ⟨zs, rfl, pz⟩ := perm_strs pm
    obtain ⟨g1, g2, g3⟩ := names16_good
    have zd : zs.Nodup := pz.nodup_iff.mpr g1
    have zl : zs.length = 16 := pz.length_eq.trans g2
    intro d hd
    have nam : ∀ k ∈ ns, nameS (imgF ns zs k) = true := fun k hk => g3 _ (pz.mem_iff.mp (img_mem nd zl n8 hk))
    have s2 := K0.Same.new (.dK []) hd
    have hd0 : H d = none := none_kd hp dc1 ((Kd.of s0).tr kd1) hd
    have nap : a ≠ p := hap
    have nmd : m ≠ d := fun z => by rw [z, hd] at em; cases em
    have dcA : DiceAt H1 p := dc1
    have ndp : d ≠ p := dc1.off hd
    have nmp : m ≠ p := (hp.on s0).off hm
    have ham : a ≠ m := fun z => by
      have y := s0 _ _ ha
      rw [z] at y
      rw [y] at hm
      cases hm
    have had : a ≠ d := fun z => by rw [z, hd0] at ha; cases ha
    refine ⟨_, _, rfl, _, rfl, a, rfl, ⟨_, SqL.of (s2 _ _ (kd1 _ _ hap (s0 _ _ ha)))⟩, for_list (K := K) (a := a) (xs := ns.map V.str) (fun i σ H' => (∃ u, σ = [some (.ref p), some (.ref a), some (.ref m), some (.ref d), u]) ∧ (∀ b o, b ≠ p → b ≠ m → b ≠ d → H b = some o → H' b = some o) ∧ DiceAt H' p ∧ H' m = some (.lst ((zs.take (16 - i)).map V.str)) ∧ H' d = some (.dK ((ns.take i).map (fKv (imgF ns zs)))))
        ⟨⟨none, rfl⟩, fun b o n1 _ n3 e => s2 _ _ (kd1 _ _ n1 (s0 _ _ e)), dc1.on s2, ?_, ?_⟩ (fun i σ H' _ ⟨_, s1, _⟩ => SqL.of (s1 _ _ hap ham had ha)) ?_ ?_⟩
    · rw [Nat.sub_zero, ← zl, List.take_length]
      exact s2 _ _ em
    · rw [List.take_zero]
      exact upd_same
    · rintro i x σ H2 hx ⟨⟨u, rfl⟩, s3, dc3, em3, ed3⟩
      rw [List.getElem?_map] at hx
      obtain ⟨z, hz, rfl⟩ := Option.map_eq_some_iff.mp hx
      obtain ⟨hi, ei⟩ := List.getElem?_eq_some_iff.mp hz
      have iz := img_at nd zl n8 hz
      have ln : ((zs.take (16 - i)).map V.str).length = 16 - i := by rw [List.length_map, List.length_take, zl]; omega
      refine ⟨_, rfl, .inl ⟨rfl, _, SqL.of em3⟩, m, _, .str (imgF ns zs z), rfl, rfl, em3, ?_, ?_⟩
      · rw [ln, List.getElem?_map, List.getElem?_take, if_pos (by omega), show 16 - i - 1 = 15 - i by omega, iz]
        rfl
      have li : ((ns.take i).map (fKv (imgF ns zs))).length < sizeLine := by rw [List.length_map, List.length_take, sizeLine_eq]; omega
      have ed3' : upd H2 m (.lst ((zs.take (16 - i)).map V.str).dropLast) d = some (.dK ((ns.take i).map (fKv (imgF ns zs)))) := by rw [upd_ne (Ne.symm nmd)]; exact ed3
      have ep : putK ((ns.take i).map (fKv (imgF ns zs))) (Sum.inr z : Key) (V.str (imgF ns zs z)) = (ns.take (i + 1)).map (fKv (imgF ns zs)) := by
        have no : (((ns.take i).map (fKv (imgF ns zs))).any fun kv => decide (kv.1 = (Sum.inr z : Key))) = false := by
          refine Bool.eq_false_iff.mpr fun y => ?_
          obtain ⟨q, hq, e⟩ := List.any_eq_true.mp y
          obtain ⟨x', hx', rfl⟩ := List.mem_map.mp hq
          have e2 : x' = z := Sum.inr.inj (of_decide_eq_true e)
          obtain ⟨j, hj, ej⟩ := List.getElem_of_mem hx'
          rw [List.length_take] at hj
          rw [List.getElem_take] at ej
          have i1 := nd.idxOf_getElem j (by omega)
          have i2 := nd.idxOf_getElem i hi
          rw [ej, e2] at i1
          rw [ei] at i2
          omega
        unfold putK
        rw [no, if_neg Bool.false_ne_true, List.take_add_one, hz, List.map_append]
        rfl
      refine ⟨_, rfl, _, rfl, d, _, rfl, DPut.k (k := Sum.inr z) ed3' li, ⟨_, rfl⟩, fun b o n1 n2 n3 e => ?_, ?_, ?_, ?_⟩
      · rw [upd_ne n3, upd_ne n2]
        exact s3 b o n1 n2 n3 e
      · obtain ⟨x1, x2, x3, e⟩ := dc3
        exact ⟨x1, x2, x3, by rw [upd_ne (Ne.symm ndp), upd_ne (Ne.symm nmp)]; exact e⟩
      · rw [upd_ne nmd, upd_same, List.dropLast_eq_take, ln, ← List.map_take, List.take_take, show min (16 - i - 1) (16 - i) = 16 - (i + 1) by omega]
      · rw [upd_same, ep]
    · rintro σ H2 ⟨⟨u, rfl⟩, s3, dc3, em3, ed3⟩
      rw [List.length_map, List.take_length] at ed3
      refine ⟨_, rfl, k d (imgF ns zs) H2 (fun b o n1 e => ?_) dc3 hd0 ⟨ns, nd, fun _ => Iff.rfl, ed3⟩ (img_inj nd zd zl n8) nam⟩
      have nb : b ≠ m := fun z => by rw [z] at e; rw [s0 _ _ e] at hm; cases hm
      have nb2 : b ≠ d := fun z => by rw [z, hd0] at e; cases e
      exact s3 b o n1 nb nb2 e
end
end K0

/-! ## Y16 -/
set_option maxRecDepth 100000
set_option maxHeartbeats 8000000
namespace K0
open PySem L2 NS RZ
/-! ### the law's renamed question -/
abbrev sLRen : Stmt := top 39
def spLRen : Sp := fun vs H Q _ => ∃ (d e : Addr) (q : PQ) (ns : List Str) (f : Str → Str), vs = [.ref d, .ref e] ∧ PlA H d q ∧ WfQ q ∧ (∀ k, k ∈ ns ↔ k ∈ colsIn q.cls) ∧ NamD H e ns f ∧
  ∀ d' H' cs', Same H H' → H d' = none → PlA H' d' ⟨cs', q.asked.map f⟩ → Srt cs' (q.cls.map (mapC f)) → Q (.ref d') H'
abbrev nLRen : List Str := ["_law_plain", "_law_names_here", "_law_clauses", "_law_table", "_law_columns_here", "_law_column"]
theorem scLRen : FnScope nLRen ["_law_plain", "_law_names_here"] (defScope sLRen) := ⟨rfl, rfl, rfl, by decide +kernel, rfl, by decide +kernel, by decide +kernel⟩
abbrev scLRenIn : Scope := { kind := ScopeKind.function, names := [(".0", NameKind.local), ("_law_table", NameKind.local), ("_law_columns_here", NameKind.local), ("tuple", NameKind.globalImplicit), ("_law_names_here", NameKind.cell)], isGenerator := false, isCoroutine := false }
section
variable {P : Program} {w : World} {K : PySem.W.Frag} {mg : Str → Option Value} {base : Heap} {fQ : Addr} {fdQ : FuncData}
theorem ok_lRen {f : Addr} {fd : FuncData} (F : Fun K "_law_renamed" "_law_renamed" sLRen f fd) (tup : mg "tuple" = none)
    (eQ : Gl K mg "_law_question" fQ) (GQ : FnOk P w K mg base CX0 1 fQ fdQ ["_law_clauses", "_law_asked_here"] spQuest) (bQ : Binds K fdQ ["_law_clauses", "_law_asked_here"] []) : FnOk P w K mg base CX0 2 f fd ["_law_plain", "_law_names_here"] spLRen := by
  refine F.ok scLRen (fun vs H Q E h => ?_) (fun cdv A outer s H vs Q E hr h => ?_)
  · obtain ⟨d, e, q, ns, f, rfl, _⟩ := h
    rfl
  · obtain ⟨d, e, q, ns, f, rfl, ⟨lc, la, ts, h1, h2, h3, h4⟩, g, hm, nd, k⟩ := h
    refine ⟨_, pss_cons (ps_setLc (i := 2) (own := [("_law_table", 3), ("_law_columns_here", 4)]) (g := gTup K 2 (gCons (gName 3) (gCons (gName 4) gNil))) (tt := tYes) (te := tTup (tCons (tVar 3) (tCons (tCB (rTupOf K) (tCons (tLc (iTup K (tVar 4)) (gName 5) tYes (tDGet (tVar 1) (tVar 5)) [5]) tNil)) tNil))) (by rfl) scLRen.nd rfl rfl (sw_true rfl rfl rfl (by decide +kernel))
          (pi_list (pe_dget (lt1 hr.units) (pv 0) pe_str (fun _ _ => rfl))) (blkOk_by (own := [("_law_table", 3), ("_law_columns_here", 4)]) (N := nLRen) (sc := defScope sLRen) (by decide +kernel))
          (fun _ _ _ _ _ => pg_tup rfl (pgs_cons (pg_name (i := 3) scLRen.nd rfl (Or.inl rfl)) (pgs_cons (pg_name (i := 4) scLRen.nd rfl (Or.inl rfl)) pgs_nil))) (fun _ _ _ _ _ => pts_nil)
          (fun _ _ _ _ _ => pe_tup (pa_cons (pv 3) (pa_cons (pe_callTy (T := "tuple") (r := rTupOf K) call_tuple_of (by rfl) tup (by decide +kernel) (pa_cons
            (pe_lc (own := [("_law_column", 5)]) (wi := iTup K (tVar 4)) (g := gName 5) (tt := tYes) (te := tDGet (tVar 1) (tVar 5)) rfl scLRen.nd (pi_tup (pv 4))
              (blkOk_by (own := [("_law_column", 5)]) (N := nLRen) (sc := scLRenIn) (by decide +kernel)) (fun _ _ _ _ _ => pg_name (i := 5) scLRen.nd rfl (Or.inl rfl)) (fun _ _ _ _ _ => pts_nil)
              (fun _ _ _ _ _ => pe_dget (lt1 hr.units) (pv 1) (pv 5) (fun _ _ => rfl))) pa_nil)) pa_nil))))
      (pss_one (ps_ret (pe_call GQ hr (by rfl) eQ.g eQ.k bQ .nil pass0 (pa_cons (pv 2) (pa_cons (pe_lc (own := [("_law_column", 5)]) (g := gName 5) (tt := tYes) (te := tDGet (tVar 1) (tVar 5)) (by rfl) scLRen.nd (pi_list (pe_dget (lt1 hr.units) (pv 0) pe_str (fun _ _ => rfl)))
          (blkOk_by (own := [("_law_column", 5)]) (N := nLRen) (sc := defScope sLRen) (by decide +kernel)) (fun _ _ _ _ _ => pg_name (i := 5) scLRen.nd rfl (Or.inl rfl)) (fun _ _ _ _ _ => pts_nil)
          (fun _ _ _ _ _ => pe_dget (lt1 hr.units) (pv 1) (pv 5) (fun _ _ => rfl))) pa_nil))))), ?_⟩
    obtain ⟨ps, p1, p2, p3⟩ := nd.at_
    have get : ∀ {H' : Hp} {x : Str}, Same H H' → x ∈ colsIn q.cls → DGet H' e (.str x) (some (.str (f x))) := fun s' hx => by
      rw [← valV_fKv (f := f) ((p2 _).mpr ((hm _).mpr hx))]
      exact DGet.k (k := Sum.inr _) (s' _ _ p3)
    have lc0 : ts.length = q.cls.length := h3.len
    have few := g.c.few
    have few2 := g.few
    refine ⟨_, rfl, d, V.ref lc, rfl, DGet.k (k := Sum.inr "clauses") h1, lc, rfl, ⟨_, SqL.of h2⟩, fun D hD => lc_made (walk_list (K := K) (a := lc) (xs := ts.map V.ref)) (fun i y H' => ∃ t t2 c, y = V.ref t ∧ (q.cls.map (mapC f))[i]? = some c ∧ t ≠ D ∧ t2 ≠ D ∧ H' t = some (.tup [.str c.1, .ref t2]) ∧ H' t2 = some (.tup (c.2.map V.str)))
      (fun i y H1 H2 ⟨t, t2, c, e1, e2, n1, n2, h1, h2⟩ kd => ⟨t, t2, c, e1, e2, n1, n2, kd _ _ n1 h1, kd _ _ n2 h2⟩) (by rw [List.length_map, sizeLine_eq]; omega) hD (fun H1 s1 => SqL.of (s1 _ _ h2)) ?_ gPair_mono ?_⟩
    · rintro i x H4 H5 hi s4 ⟨acc, hacc⟩ ⟨rfl, hxi⟩
      have hi' : i < ts.length := by rwa [List.length_map] at hi
      obtain ⟨c, hc, t2, g1, g2⟩ := h3.at_ i hi'
      have ex : x = V.ref ts[i] := by
        rw [List.getElem?_map, List.getElem?_eq_getElem hi'] at hxi
        exact (Option.some.inj hxi).symm
      subst ex
      have hcm : c ∈ q.cls := List.mem_of_getElem? hc
      have g1 := s4 _ _ g1
      have g2 := s4 _ _ g2
      refine ⟨ts[i], _, rfl, SqT.of g1, rfl, _, _, rfl, _, _, rfl, rfl, rfl, fun Q2 hQ2 => ⟨_, rfl, _, rfl, t2, rfl, ⟨_, SqT.of g2⟩, fun D2 hD2 => lc_pure (f := fun j => V.str (f (c.2.getD j Str.empty))) (walk_tup (K := K) (a := t2) (xs := c.2.map V.str)) (by rw [List.length_map, sizeLine_eq]; have := (g.c.wide c hcm).2; omega) hD2 (fun H6 s6 => SqT.of (s6 _ _ g2)) ?_ gName_mono ?_⟩⟩
      · rintro j y H6 H7 hj s6 ⟨rfl, hyj⟩
        rw [List.getElem?_map] at hyj
        obtain ⟨z, hz, rfl⟩ := Option.map_eq_some_iff.mp hyj
        have ez : c.2.getD j Str.empty = z := by simp [List.getD, hz]
        rw [ez]
        exact ⟨rfl, fun Q' hq => ⟨_, rfl, _, rfl, e, _, rfl, get (K0.Same.tr s4 s6) (colsIn_mem.mpr ⟨c, hcm, List.mem_of_getElem? hz⟩), hq _ K0.Same.rfl'⟩⟩
      · intro H6 s6 hD6
        refine ⟨D2, _, rfl, .inl ⟨SqL.of hD6, fun t3 ht3 => ⟨by show 2 ≤ sizeLine; decide, fun t4 ht4 => ?_⟩⟩⟩
        have a6 := s6 _ _ hacc
        have n3 : t3 ≠ D := fun z => by rw [z, a6] at ht3; cases ht3
        have a7 := (K0.Same.new (.tup ((List.range (c.2.map V.str).length).map fun j => V.str (f (c.2.getD j Str.empty)))) ht3) _ _ a6
        have n4 : t4 ≠ D := fun z => by rw [z, a7] at ht4; cases ht4
        have n43 : t3 ≠ t4 := fun z => by rw [z, upd_same] at ht4; cases ht4
        refine hQ2 _ _ (K0.Same.tr s6 (K0.Same.tr (K0.Same.new _ ht3) (K0.Same.new _ ht4))) ⟨t4, t3, mapC f c, rfl, by rw [List.getElem?_map, hc]; rfl, n4, n3, upd_same, ?_⟩
        rw [upd_ne n43, upd_same]
        refine congrArg (fun l => some (HO.tup l)) ?_
        show _ = (c.2.map f).map V.str
        rw [List.length_map, ← strs_map f c.2, List.map_map]
        rfl
    rintro H4 acc s4 hD4 hlen hR
    rw [List.length_map] at hlen
    obtain ⟨N, rfl, n2, n3⟩ := rows_made acc (q.cls.map (mapC f)) (by rw [List.length_map]; omega) hR
    rw [List.length_map] at hlen
    obtain ⟨cs2, c1, c2⟩ := rows_cls N n3
    have ec : cs2 = q.cls.map (mapC f) := map_keyC (c2.trans n2)
    subst ec
    refine ⟨_, rfl, _, rfl, d, V.ref la, rfl, DGet.k (k := Sum.inr "asked") (s4 _ _ h1), la, rfl, ⟨_, SqL.of (s4 _ _ h4)⟩, fun D2 hD2 => lc_pure (f := fun j => V.str (f (q.asked.getD j Str.empty))) (walk_list (K := K) (a := la) (xs := q.asked.map V.str)) (by rw [List.length_map, sizeLine_eq]; omega) hD2 (fun H6 s6 => SqL.of (s6 _ _ (s4 _ _ h4))) ?_ gName_mono ?_⟩
    · rintro j y H6 H7 hj s6 ⟨rfl, hyj⟩
      rw [List.getElem?_map] at hyj
      obtain ⟨z, hz, rfl⟩ := Option.map_eq_some_iff.mp hyj
      have ez : q.asked.getD j Str.empty = z := by simp [List.getD, hz]
      rw [ez]
      exact ⟨rfl, fun Q' hq => ⟨_, rfl, _, rfl, e, _, rfl, get (K0.Same.tr s4 s6) (g.ask z (List.mem_of_getElem? hz)), hq _ K0.Same.rfl'⟩⟩
    intro H5 s5 hD5
    have ea : (List.range (q.asked.map V.str).length).map (fun j => V.str (f (q.asked.getD j Str.empty))) = (q.asked.map f).map V.str := by
      rw [List.length_map, ← strs_map f q.asked, List.map_map]
      rfl
    rw [ea] at hD5
    have eN : N.map (fun m => V.ref m.1) = (N.map (·.1)).map V.ref := by rw [List.map_map]; rfl
    refine ⟨D, D2, N.map (·.1), q.cls.map (mapC f), q.asked.map f, rfl, by rw [← eN]; exact s5 _ _ hD4, (c1.same s5).ins, hD5, by rw [List.length_map]; omega, fun cs' H6 d' s6 hd' pl up mem => ?_⟩
    have sA := K0.Same.tr s4 s5
    exact k d' H6 cs' (K0.Same.tr sA s6) (none_same sA hd') pl ⟨up, mem⟩
end
end K0

/-! ## X9 -/
set_option maxRecDepth 100000
set_option maxHeartbeats 4000000
namespace K0
open PySem L2 NS RZ
/-! ### the law's widths, columns -/
def kW (c : CL) : NestedKey := .tup [.text c.1, .num (c.2.length : Int)]
theorem kW_depth (c : CL) : (kW c).depth = 1 := by simp [kW, NestedKey.depth, NestedKey.depthAll]
theorem kW_inj {c c' : CL} (h : kW c = kW c') : c.1 = c'.1 ∧ c.2.length = c'.2.length := by
  unfold kW at h
  injection h with h
  injection h with h1 h2
  injection h1 with h1
  injection h2 with h2 _
  injection h2 with h2
  exact ⟨h1, Int.ofNat.inj h2⟩
theorem ok_kW (c c' : CL) : okK (kW c) (kW c') = true := by simp [kW, okK, okKs]
def wV (c : CL) : Key × V := (Sum.inr c.1, V.int c.2.length)
theorem merge_tabs (cs : List CL) : mergeK [] (cs.map wV) = tabsOf cs := by
  unfold mergeK tabsOf
  rw [List.foldl_map]
  rfl
def atW (H : Hp) (m : Row) (c : CL) : Prop := m.2 = kW c ∧ H m.1 = some (.tup [.str c.1, .int c.2.length])
theorem rows_w {H : Hp} {D : Addr} : ∀ (acc : List V) (cs : List CL), acc.length = cs.length → (∀ (i : Nat) (y : V), acc[i]? = some y → ∃ (t : Addr) (c : CL), y = V.ref t ∧ cs[i]? = some c ∧ t ≠ D ∧ H t = some (.tup [.str c.1, .int c.2.length])) →
    ∃ N : List Row, acc = N.map (fun m => V.ref m.1) ∧ N.map (·.2) = cs.map kW ∧ ∀ m ∈ N, ∃ c, atW H m c
  | [], [], _, _ => ⟨[], rfl, rfl, fun m z => by cases z⟩
  | [], _ :: _, e, _ => by cases e
  | _ :: _, [], e, _ => by cases e
  | y :: acc, c :: cs, e, h => by
    obtain ⟨t, c', rfl, hc, _, h1⟩ := h 0 y rfl
    obtain rfl : c = c' := Option.some.inj hc
    obtain ⟨N, n1, n2, n3⟩ := rows_w acc cs (Nat.succ.inj e) fun i u hu => h (i + 1) u hu
    refine ⟨(t, kW c) :: N, by rw [List.map_cons, ← n1], by rw [List.map_cons, List.map_cons, n2], fun m hm => ?_⟩
    rcases List.mem_cons.mp hm with z | z
    · rw [z]
      exact ⟨c, rfl, h1⟩
    · exact n3 m z
theorem paired_w {K : PySem.W.Frag} {H : Hp} : ∀ (M : List Row) (cs : List CL), M.map (·.2) = cs.map kW → (∀ m ∈ M, ∃ c, atW H m c) → Paired (fun p (kv : Key × V) => SqT K H p [kV kv.1, kv.2]) (M.map (·.1)) (cs.map wV)
  | [], [], _, _ => .nil
  | [], _ :: _, e, _ => by cases e
  | _ :: _, [], e, _ => by cases e
  | m :: M, c :: cs, e, h => by
    rw [List.map_cons, List.map_cons] at e
    injection e with e1 e2
    obtain ⟨c', h1, h2⟩ := h m List.mem_cons_self
    rw [h1] at e1
    obtain ⟨z1, z2⟩ := kW_inj e1
    rw [z1, z2] at h2
    exact .cons (SqT.of h2) (paired_w M cs e2 fun u hu => h u (List.mem_cons_of_mem _ hu))
abbrev sLWid : Stmt := top 38
/-- the widths agree with some clause of the table -/
def WidD (kvs : List (Key × V)) (cs : List CL) : Prop := ∀ c ∈ cs, ∃ c' ∈ cs, c'.1 = c.1 ∧ valV kvs (Sum.inr c.1 : Key) = some (V.int c'.2.length)
theorem widD_of {cs cs2 : List CL} (pk : (cs2.map kW).Perm (cs.map kW)) : WidD (tabsOf cs2) cs := by
  intro c hc
  obtain ⟨c2, h2, e2⟩ := List.mem_map.mp (pk.mem_iff.mpr (List.mem_map.mpr ⟨c, hc, rfl⟩))
  obtain ⟨z1, z2⟩ := kW_inj e2
  obtain ⟨n, h3, c3, h4, h5, h6⟩ := tabsOf_some cs2 c2 h2
  obtain ⟨c', h7, e7⟩ := List.mem_map.mp (pk.mem_iff.mp (List.mem_map.mpr ⟨c3, h4, rfl⟩))
  obtain ⟨z3, z4⟩ := kW_inj e7
  refine ⟨c', h7, by rw [z3, h5, z1], ?_⟩
  rw [← z1, h3, z4, h6]
theorem rows_atW {H : Hp} : ∀ (M : List Row), (∀ m ∈ M, ∃ c, atW H m c) → ∃ cs2 : List CL, M.map (·.2) = cs2.map kW ∧ True
  | [], _ => ⟨[], rfl, True.intro⟩
  | m :: M, h => by
    obtain ⟨c, h1, _⟩ := h m List.mem_cons_self
    obtain ⟨cs2, h2, _⟩ := rows_atW M fun u hu => h u (List.mem_cons_of_mem _ hu)
    exact ⟨c :: cs2, by rw [List.map_cons, List.map_cons, h1, h2], True.intro⟩
def spLWid2 : Sp := fun vs H Q _ => ∃ (d : Addr) (q : PQ), vs = [.ref d] ∧ PlA H d q ∧ q.cls.length ≤ 1000 ∧ ∀ a kvs H', Same H H' → H a = none → H' a = some (.dK kvs) → WidD kvs q.cls → Q (.ref a) H'
def spCols2 : Sp := fun vs H Q _ => ∃ (d : Addr) (q : PQ), vs = [.ref d] ∧ PlA H d q ∧ Smol q.cls ∧ ∀ ns l H', IsCols (colsIn q.cls) ns → Same H H' → H l = none → H' l = some (.lst (ns.map V.str)) → Q (.ref l) H'
structure TLs (K : PySem.W.Frag) (mg : Str → Option Value) : Prop extends TA K mg where
  dct : mg "dict" = none
section
variable {P : Program} {w : World} {K : PySem.W.Frag} {mg : Str → Option Value} {base : Heap}
abbrev nLWid : List Str := ["_law_plain", "_law_table", "_law_columns_here"]
theorem scLWid : FnScope nLWid ["_law_plain"] (defScope sLWid) := ⟨rfl, rfl, rfl, by decide +kernel, rfl, by decide +kernel, by decide +kernel⟩
theorem ok_lWid2 {f : Addr} {fd : FuncData} (F : Fun K "_law_widths" "_law_widths" sLWid f fd) (T : TLs K mg) : FnOk P w K mg base CX0 1 f fd ["_law_plain"] spLWid2 := by
  refine F.ok scLWid (fun vs H Q E h => ?_) (fun cdv A outer s H vs Q E hr h => ?_)
  · obtain ⟨d, q, rfl, _⟩ := h
    rfl
  · obtain ⟨d, q, rfl, ⟨lc, la, ts, h1, h2, h3, h4⟩, g, k⟩ := h
    refine ⟨_, pss_one (ps_ret (pe_callTy (call_dictP rfl) (by rfl) T.dct (by decide +kernel) (pa_cons (pe_callB (cr_sortList hr.units) (by rfl) T.srt (by decide +kernel) (pa_cons
        (pe_lc (own := [("_law_table", 1), ("_law_columns_here", 2)]) (g := gTup K 2 (gCons (gName 1) (gCons (gName 2) gNil))) (tt := tYes) rfl scLWid.nd (pi_list (pe_dget (lt1 hr.units) (pv 0) pe_str (fun _ _ => rfl)))
          (blkOk_by (own := [("_law_table", 1), ("_law_columns_here", 2)]) (N := nLWid) (sc := defScope sLWid) (by decide +kernel))
          (fun _ _ _ _ _ => pg_tup rfl (pgs_cons (pg_name (i := 1) scLWid.nd rfl (Or.inl rfl)) (pgs_cons (pg_name (i := 2) scLWid.nd rfl (Or.inl rfl)) pgs_nil))) (fun _ _ _ _ _ => pts_nil)
          (fun _ _ _ _ _ => pe_tup (pa_cons (pv 1) (pa_cons (pe_callB (id := "len") (r := rLenS K) call_len_seq (by rfl) T.len PySem.boot_len (pa_cons (pv 2) pa_nil)) pa_nil)))) pa_nil)) pa_nil))), ?_⟩
    have n1 : ts.length = q.cls.length := h3.len
    have c8 := g
    refine ⟨_, rfl, d, V.ref lc, rfl, DGet.k (k := Sum.inr "clauses") h1, lc, rfl, ⟨_, SqL.of h2⟩, fun D hD => lc_made (walk_list (K := K) (a := lc) (xs := ts.map V.ref)) (fun i y H' => ∃ t c, y = V.ref t ∧ q.cls[i]? = some c ∧ t ≠ D ∧ H' t = some (.tup [.str c.1, .int c.2.length]))
      (fun i y H1 H2 ⟨t, c, e1, e2, n1, h1⟩ kd => ⟨t, c, e1, e2, n1, kd _ _ n1 h1⟩) (by rw [List.length_map, sizeLine_eq]; omega) hD (fun H2 s2 => SqL.of (s2 _ _ h2)) ?_ gPair_mono ?_⟩
    · rintro i x H2 H3 hi s2 ⟨acc, hacc⟩ ⟨rfl, hx⟩
      rw [List.getElem?_map] at hx
      obtain ⟨t, ht, rfl⟩ := Option.map_eq_some_iff.mp hx
      obtain ⟨hti, et⟩ := List.getElem?_eq_some_iff.mp ht
      obtain ⟨c, hci, hA⟩ := h3.at_ i hti
      rw [et] at hA
      obtain ⟨t2, g1, g2⟩ := hA.same s2
      refine ⟨t, _, rfl, SqT.of g1, rfl, _, _, rfl, _, _, rfl, rfl, rfl, fun Q' hq => ⟨_, rfl, _, rfl, t2, _, rfl, .inr (SqT.of g2), ?_⟩⟩
      rw [List.length_map]
      refine ⟨by show 2 ≤ sizeLine; decide, fun m hm => hq _ _ (K0.Same.new _ hm) ⟨m, c, rfl, hci, ?_, upd_same⟩⟩
      intro e
      rw [e, hacc] at hm
      cases hm
    · intro H2 acc s2 hD2 hlen hR
      rw [List.length_map, n1] at hlen
      obtain ⟨N, rfl, e2, e3⟩ := rows_w acc q.cls hlen hR
      refine ⟨D, N, 2, rfl, SqL.of hD2, fun m hm => ?_, ⟨.inr (.inl rfl), fun m hm => ?_, fun m hm m' hm' => ?_⟩, fun M' p pm so hp => ?_⟩
      · obtain ⟨c, z1, z2⟩ := e3 m hm
        refine ⟨?_, by rw [z1, kW_depth]; decide⟩
        rw [z1]
        exact .tup (SqT.of z2) (.cons (.str _) (.cons (.int _) .nil))
      · obtain ⟨c, z1, _⟩ := e3 m hm
        exact ⟨_, _, z1, rfl⟩
      · obtain ⟨c, z1, _⟩ := e3 m hm
        obtain ⟨c', z1', _⟩ := e3 m' hm'
        rw [z1, z1']
        exact ok_kW c c'
      · have sp := K0.Same.new (.lst (M'.map fun m => V.ref m.1)) hp
        obtain ⟨cs2, ek, e4⟩ := rows_atW (H := H2) M' fun m hm => e3 m (pm.mem_iff.mp hm)
        have em : upd H2 p (.lst (M'.map fun m => V.ref m.1)) p = some (.lst ((M'.map (·.1)).map V.ref)) := by
          rw [upd_same, List.map_map]
          rfl
        refine ⟨p, M'.map (·.1), cs2.map wV, rfl, SqL.of em, paired_w M' cs2 ek fun m hm => ?_, fun a ha => ?_⟩
        · obtain ⟨c, z1, z2⟩ := e3 m (pm.mem_iff.mp hm)
          exact ⟨c, z1, sp _ _ z2⟩
        · rw [merge_tabs]
          have pk : (cs2.map kW).Perm (q.cls.map kW) := by
            rw [← ek, ← e2]
            exact pm.map _
          exact k a _ _ (K0.Same.tr s2 (K0.Same.tr sp (K0.Same.new _ ha))) (none_back s2 (none_back sp ha)) upd_same (widD_of pk)
theorem ok_cols2 {f : Addr} {fd : FuncData} (F : Fun K "_law_columns" "_law_columns" sCols f fd) (T : TA K mg) : FnOk P w K mg base CX0 1 f fd ["_law_plain"] spCols2 := by
  refine F.ok scCols (fun vs H Q E h => ?_) (fun cdv A outer s H vs Q E hr h => ?_)
  · obtain ⟨d, q, rfl, _⟩ := h
    rfl
  · obtain ⟨d, q, rfl, hd, g, k⟩ := h
    have tot := g.total
    refine ⟨_, pss_cons (ps_set (i := 1) scCols.nd rfl (Or.inl rfl) (pe_lst pa_nil))
      (pss_cons (ps_for PassesOwn.never rfl (pi_list (pe_dget (lt1 hr.units) (pv 0) pe_str (fun _ _ => rfl))) (pg_tup rfl (pgs_cons (pg_name (i := 2) scCols.nd rfl (Or.inl rfl)) (pgs_cons (pg_name (i := 3) scCols.nd rfl (Or.inl rfl)) pgs_nil)))
        (pss_one (ps_expr (pe_bm PySem.F.plainAttrs_list PySem.F.slot_list_extend PySem.F.type_list_extend mt_extend (pv 1) (pa_cons (pe_callTy call_list_of (by rfl) T.list (by decide +kernel) (pa_cons (pv 3) pa_nil)) pa_nil)))))
      (pss_one (ps_ret (pe_callB (cr_sortTxP rfl) (by rfl) T.srt (by decide +kernel) (pa_cons (pe_callTy (cr_setTx rfl) (by rfl) T.set (by decide +kernel) (pa_cons (pv 1) pa_nil)) pa_nil))))), ?_⟩
    obtain ⟨lc, la, ts, h1, h2, h3, h4⟩ := hd
    refine ⟨by show 0 ≤ sizeLine; decide, fun l hl => ?_⟩
    have s0 : Same H (upd H l (.lst [])) := K0.Same.new _ hl
    refine ⟨_, rfl, d, V.ref lc, rfl, DGet.k (k := Sum.inr "clauses") (s0 _ _ h1), lc, rfl, ⟨_, SqL.of (s0 _ _ h2)⟩,
      for_list (K := K) (a := lc) (xs := ts.map V.ref) (fun i σ H' => (∃ u v, σ = [some (.ref d), some (.ref l), u, v]) ∧ Same H H' ∧ H' l = some (.lst ((colsIn (q.cls.take i)).map V.str)))
        ⟨⟨none, none, rfl⟩, s0, upd_same⟩ (fun i σ H' _ ⟨_, s1, _⟩ => SqL.of (s1 _ _ h2)) ?_ ?_⟩
    · rintro i x σ H1 hx ⟨⟨u, v, rfl⟩, s1, hq⟩
      rw [List.getElem?_map] at hx
      obtain ⟨t, ht, rfl⟩ := Option.map_eq_some_iff.mp hx
      obtain ⟨hi, et⟩ := List.getElem?_eq_some_iff.mp ht
      obtain ⟨c, hc, hA⟩ := h3.at_ i hi
      rw [et] at hA
      obtain ⟨t2, g1, g2⟩ := hA
      refine ⟨t, _, rfl, SqT.of (s1 _ _ g1), rfl, _, _, rfl, _, _, rfl, rfl, ?_⟩
      refine ⟨_, rfl, .inl ⟨rfl, _, SqL.of hq⟩, _, rfl, t2, _, rfl, .inr (SqT.of (s1 _ _ g2)), fun m hm => ?_⟩
      have ml : l ≠ m := ne_of_none hq hm
      have bound := colsIn_le q.cls (i + 1)
      rw [colsIn_take _ _ _ hc, List.length_append] at bound
      refine ⟨l, m, _, _, rfl, rfl, by rw [upd_ne ml]; exact hq, upd_same, ?_, ⟨_, _, rfl⟩, fun b o e => ?_, ?_⟩
      · rw [List.length_map, List.length_map, sizeLine_eq]
        omega
      · rw [upd_ne (ne_of_none e hl), upd_ne (ne_of_none (s1 _ _ e) hm)]
        exact s1 _ _ e
      · rw [upd_same, colsIn_take _ _ _ hc, List.map_append]
    · rintro σ H1 ⟨⟨u, v, rfl⟩, s1, hq⟩
      rw [List.length_map, h3.len, List.take_length] at hq
      refine ⟨_, rfl, l, _, rfl, .inr (SqL.of hq), by omega, fun p n hn hp => ⟨p, _, n, rfl, upd_same, fun L nd hL => g.nodup nd fun k hk => of_decide_eq_true (hL k hk), fun ns m g1 g2 g3 hm => ?_⟩⟩
      have sp := K0.Same.new (SetTO w p (fun j => decide (j ∈ colsIn q.cls)) n) hp
      refine k ns m _ ⟨g1, g2, fun j => by rw [g3, decide_eq_true_eq]⟩ (K0.Same.tr s1 (K0.Same.tr sp (K0.Same.new _ hm))) ?_ upd_same
      exact none_back s1 (none_back sp hm)
end
end K0

/-! ## Y17 -/
set_option maxRecDepth 100000
set_option maxHeartbeats 8000000
namespace K0
open PySem L2 NS RZ
theorem filter_none {n : Nat} {keep : Nat → Bool} {p : Nat → Bool} (h : ∀ i, i < n → keep i = !p i) : (List.range n).filter keep = [] ↔ ((List.range n).map p).all id = true := by
  rw [List.filter_eq_nil_iff, List.all_map, List.all_eq_true]
  refine forall_congr' fun i => ?_
  constructor
  · intro z hi
    have := z hi
    rw [h i (List.mem_range.mp hi)] at this
    show p i = true
    cases q : p i with
    | true => rfl
    | false => rw [q] at this; exact absurd rfl this
  · intro z hi
    have q : p i = true := z hi
    rw [h i (List.mem_range.mp hi), q]
    decide
/-- a list of data beside the empty list -/
theorem eqv_nil (ds : List PyData) : PyData.eqv (.list ds) (.list []) = ds.isEmpty := by
  cases ds with
  | nil => rfl
  | cons d r => rfl
theorem dCs_shapedL {cs : List CL} (h : ∀ c ∈ cs, (dC c).canLay0 = true) : SeqAt.shaped (.list (cs.map dC)) = true := by
  unfold SeqAt.shaped
  have e : (PyData.list (cs.map dC)).canLay0 = true := dCs_lay h
  have d : (PyData.list (cs.map dC)).depth ≤ 64 := by
    show PyData.depthAll (cs.map dC) + 1 ≤ 64
    have := depth_dCs cs
    omega
  rw [e, decide_eq_true d]
  rfl
/-- sieved by what is not so: none left exactly if all are so -/
theorem none_left {n : Nat} (p : Nat → Bool) : ((List.range n).filter fun i => !p i).isEmpty = ((List.range n).map p).all id := by
  have fn := filter_none (n := n) (keep := fun i => !p i) (p := p) fun _ _ => rfl
  cases h5 : ((List.range n).map p).all id with
  | true => rw [fn.mpr h5]; rfl
  | false =>
    cases h6 : (List.range n).filter fun i => !p i with
    | nil => rw [fn.mp h6] at h5; cases h5
    | cons a b => rfl
def widK (kvs : List (Key × V)) (cs : List CL) (i : Nat) : Bool := decide (some (V.int (cs.getD i ("", [])).2.length) = valV kvs (Sum.inr (cs.getD i ("", [])).1 : Key))
theorem widK_all {kvs : List (Key × V)} {cs cs' : List CL} (wd : WidD kvs cs') (mm : ∀ c, c ∈ cs' ↔ c ∈ cs) : ((List.range cs.length).map (widK kvs cs)).all id = true ↔ ∀ c ∈ cs', ∀ c' ∈ cs', c.1 = c'.1 → c.2.length = c'.2.length := by
  rw [List.all_map, List.all_eq_true]
  constructor
  · intro h c hc c' hc' e
    have at_ : ∀ x ∈ cs', some (V.int x.2.length) = valV kvs (Sum.inr x.1 : Key) := fun x hx => by
      obtain ⟨i, hi, rfl⟩ := List.getElem_of_mem ((mm x).mp hx)
      have z2 := of_decide_eq_true (show widK kvs cs i = true from h i (List.mem_range.mpr hi))
      have e2 : cs.getD i ("", []) = cs[i] := by simp [List.getD, hi]
      rw [e2] at z2
      exact z2
    have h1 := at_ c hc
    have h2 := at_ c' hc'
    rw [e, ← h2] at h1
    injection h1 with h1
    injection h1 with h1
    omega
  · intro h i hi
    have hm := (mm _).mpr (getD_mem (List.mem_range.mp hi))
    obtain ⟨c', h1, h2, h3⟩ := wd _ hm
    refine decide_eq_true ?_
    rw [h3, h _ hm c' h1 h2.symm]
theorem dp_cls {K : PySem.W.Frag} {H : Hp} {ts : List Addr} {cs : List CL} (hc : Cls H ts cs) : ∀ (I : List Nat), (∀ i ∈ I, i < cs.length) → DpAll K H (I.map fun i => V.ref (ts.getD i 0)) (I.map fun i => dC (cs.getD i ("", [])))
  | [], _ => .nil
  | i :: I, h => by
    have hi := h i List.mem_cons_self
    have hi' : i < ts.length := by rw [hc.len]; exact hi
    obtain ⟨c, e, hA⟩ := hc.at_ i hi'
    have e1 : ts.getD i 0 = ts[i] := by simp [List.getD, hi']
    have e2 : cs.getD i ("", []) = c := by simp [List.getD, e]
    refine .cons ?_ (dp_cls hc I fun j hj => h j (List.mem_cons_of_mem _ hj))
    show Dp K H (V.ref (ts.getD i 0)) (dC (cs.getD i ("", [])))
    rw [e1, e2]
    exact hA.dp
theorem pre_any {L : List CL} (l16 : L.length ≤ 16) (hL : ∀ c ∈ L, GoodC c) {pool : List Str} (pl : pool.length < 64) (hp : ∀ c ∈ L, ∀ k ∈ c.2, k ∈ pool) {cs' : List CL} (s : Srt cs' L) {as : List Str} (nd : as.Nodup) (nam : ∀ k ∈ as, nameS k = true) (len : as.length ≤ 1000) : PreQ ⟨cs', as⟩ := by
  refine ⟨⟨⟨Nat.le_trans s.len l16, fun c hc => (hL c ((s.mem c).mp hc)).wide.2, pool, pl, fun k hk => ?_⟩, fun c hc => (hL c ((s.mem c).mp hc)).tab, fun c hc => (hL c ((s.mem c).mp hc)).nam, fun c hc => (hL c ((s.mem c).mp hc)).wide.1, s.up⟩, nd, nam, len⟩
  obtain ⟨c, hc, h⟩ := colsIn_mem.mp hk
  exact hp c ((s.mem c).mp hc) k h
/-! ### what should come of some clauses and asked columns -/
abbrev sChk : Stmt := top 50
def ChkV (H : Hp) (v : V) (q : PQ) : Prop := (WfQ q ∧ ∃ d, v = .ref d ∧ PlA H d q) ∨ (¬ WfQ q ∧ v = .str "question")
def spChk : Sp := fun vs H Q _ => ∃ (a b : Addr) (ts : List Addr) (L : List CL) (as : List Str) (pool : List Str), vs = [.ref a, .ref b] ∧ H a = some (.lst (ts.map V.ref)) ∧ Cls H ts L ∧ L.length ≤ 16 ∧ (∀ c ∈ L, GoodC c) ∧ pool.length < 64 ∧ (∀ c ∈ L, ∀ k ∈ c.2, k ∈ pool) ∧ H b = some (.lst (as.map V.str)) ∧ as.Nodup ∧ (∀ k ∈ as, k ∈ colsIn L) ∧ (∀ k ∈ as, nameS k = true) ∧ as.length ≤ 1000 ∧
  ∀ cs' H' v, Same H H' → Srt cs' L → ChkV H' v ⟨cs', as⟩ → Q v H'
abbrev nChk : List Str := ["_law_clauses", "_law_asked_here", "_law_plain", "_law_widths_here", "_law_wrong", "_law_one"]
theorem scChk : FnScope nChk ["_law_clauses", "_law_asked_here"] (defScope sChk) := ⟨rfl, rfl, rfl, by decide +kernel, rfl, by decide +kernel, by decide +kernel⟩
section
variable {P : Program} {w : World} {K : PySem.W.Frag} {mg : Str → Option Value} {base : Heap} {fQ fW fC : Addr} {fdQ fdW fdC : FuncData}
theorem ok_chk {f : Addr} {fd : FuncData} (F : Fun K "_law_checked" "_law_checked" sChk f fd) (len : mg "len" = none)
    (eQ : Gl K mg "_law_question" fQ) (GQ : FnOk P w K mg base CX0 1 fQ fdQ ["_law_clauses", "_law_asked_here"] spQuest) (bQ : Binds K fdQ ["_law_clauses", "_law_asked_here"] [])
    (eW : Gl K mg "_law_widths" fW) (GW : FnOk P w K mg base CX0 1 fW fdW ["_law_plain"] spLWid2) (bW : Binds K fdW ["_law_plain"] [])
    (eC : Gl K mg "_law_columns" fC) (GC : FnOk P w K mg base CX0 1 fC fdC ["_law_plain"] spCols2) (bC : Binds K fdC ["_law_plain"] []) : FnOk P w K mg base CX0 2 f fd ["_law_clauses", "_law_asked_here"] spChk := by
  refine F.ok scChk (fun vs H Q E h => ?_) (fun cdv A outer s H vs Q E hr h => ?_)
  · obtain ⟨a, b, ts, L, as, pool, rfl, _⟩ := h
    rfl
  · obtain ⟨a, b, ts, L, as, pool, rfl, ha, hc, l16, goods, pl, hp, hb, nd, ask, nam, la, k⟩ := h
    refine ⟨_, pss_cons (ps_set (i := 2) scChk.nd rfl (Or.inl rfl) (pe_call GQ hr (by rfl) eQ.g eQ.k bQ .nil pass0 (pa_cons (pv 0) (pa_cons (pv 1) pa_nil))))
      (pss_cons (ps_set (i := 3) scChk.nd rfl (Or.inr rfl) (pe_call GW hr (by rfl) eW.g eW.k bW .nil pass0 (pa_cons (pv 2) pa_nil)))
      (pss_cons (ps_if (PW.pt (pw_or (pt_not (pt_chain op_le op_le pe_int (pe_callB call_len_seq (by rfl) len PySem.boot_len (pa_cons (pe_dget (lt1 hr.units) (pv 2) pe_str (fun _ _ => rfl)) pa_nil)) pe_int))
          (pw_or1 (pt_cmpR op_gt (pe_callB call_len_seq (by rfl) len PySem.boot_len (pa_cons (pe_call GC hr (by rfl) eC.g eC.k bC .nil pass0 (pa_cons (pv 2) pa_nil)) pa_nil)) pe_int (nomark _))))) (pss_one (ps_ret pe_str)) pss_nil)
      (pss_cons (ps_setLc (i := 4) (own := [("_law_one", 5)]) (g := gName 5) (tt := tTest (tOp rNe (tCB (rLenS K) (tCons (tOp (rIxT K) (tVar 5) (tC (.int 1))) tNil)) (tDGet (tVar 3) (tOp (rIxT K) (tVar 5) (tC (.int 0)))))) (te := tVar 5) (by rfl) scChk.nd rfl rfl (sw_true rfl rfl rfl (by decide +kernel))
          (pi_list (pe_dget (lt1 hr.units) (pv 2) pe_str (fun _ _ => rfl))) (blkOk_by (own := [("_law_one", 5)]) (N := nChk) (sc := defScope sChk) (by decide +kernel)) (fun _ _ _ _ _ => pg_name (i := 5) scChk.nd rfl (Or.inl rfl))
          (fun _ _ _ _ _ => pts_one (pt_cmpR op_ne (pe_callB (id := "len") (r := rLenS K) call_len_seq (by rfl) len PySem.boot_len (pa_cons (pe_ix (r := rIxT K) ix_tup (pv 5) pe_int (fun _ _ => rfl)) pa_nil)) (pe_dget (lt1 hr.units) (pv 3) (pe_ix (r := rIxT K) ix_tup (pv 5) pe_int (fun _ _ => rfl)) (fun _ _ => rfl)) (nomark _))) (fun _ _ _ _ _ => pv 5))
      (pss_one (ps_ret (pe_ifExp (pt_cmpR (op_eqD hr.units) (pv 4) (pe_lst pa_nil) (nomark _)) (pv 2) pe_str)))))), ?_⟩
    refine ⟨_, rfl, _, rfl, a, b, ts, L, as, rfl, ha, hc.ins, hb, by rw [hc.len]; omega, fun cs' H1 d s1 hd pl1 up mem => ?_⟩
    have srt : Srt cs' L := ⟨up, mem⟩
    have pq : PreQ ⟨cs', as⟩ := pre_any l16 goods pl hp srt nd nam la
    have few : cs'.length ≤ 16 := Nat.le_trans srt.len l16
    have askc : ∀ k ∈ as, k ∈ colsIn cs' := fun k hk => by
      obtain ⟨c, hc, h⟩ := colsIn_mem.mp (ask k hk)
      exact colsIn_mem.mpr ⟨c, (mem c).mpr hc, h⟩
    refine ⟨_, rfl, d, ⟨cs', as⟩, rfl, pl1, by show cs'.length ≤ 1000; omega, fun a4 kvs H2 s2 ha4 ea4 wd => ?_⟩
    have s12 := K0.Same.tr s1 s2
    have pl2 := pl1.same s2
    obtain ⟨lc, lb, tp, h1, h2, h3, h4⟩ := id pl2
    have lt : tp.length = cs'.length := h3.len
    have qres : ∀ H', Same H2 H' → ¬ WfQ ⟨cs', as⟩ → Q (.str "question") H' := fun H' s' no => k cs' H' _ (K0.Same.tr s12 s') srt (.inr ⟨no, rfl⟩)
    refine ⟨_, rfl, d, V.ref lc, rfl, DGet.k (k := Sum.inr "clauses") h1, lc, _, rfl, .inl (SqL.of h2), _, _, rfl, rfl, _, rfl, ?_⟩
    rw [List.length_map, lt]
    refine if_both (fun c1 => ?_) (fun c1 => ?_)
    case refine_2 =>
      refine ⟨_, rfl, if_pos_of rfl (qres H2 K0.Same.rfl' fun z => ?_)⟩
      have z1 := List.length_pos_iff.mpr z.c.some_
      have z2 := of_decide_eq_false c1
      have z3 : 0 < cs'.length := z1
      omega
    have c1 := of_decide_eq_true c1
    refine ⟨_, _, rfl, rfl, _, rfl, ?_⟩
    by_cases c2 : (cs'.length : Int) ≤ 8
    case neg =>
      rw [decide_eq_false c2]
      refine if_pos_of rfl (qres H2 K0.Same.rfl' fun z => ?_)
      have z1 : cs'.length ≤ 8 := z.c.few
      omega
    rw [decide_eq_true c2]
    refine if_neg_of rfl ?_
    refine ⟨_, rfl, d, ⟨cs', as⟩, rfl, pl2, pq.c.toSmol, fun ns l3 H3 ic s3 hl3 el3 => ?_⟩
    refine ⟨l3, _, rfl, .inl (SqL.of el3), _, _, rfl, rfl, _, rfl, ?_⟩
    rw [List.length_map]
    refine if_both (fun c3 => ?_) (fun c3 => ?_)
    · refine qres H3 s3 fun z => ?_
      have z1 := z.c.ncols ic
      have z2 := of_decide_eq_true c3
      omega
    have c3 := of_decide_eq_false c3
    have h13 := s3 _ _ h1
    have h23 := s3 _ _ h2
    have h33 := h3.same s3
    have ea3 := s3 _ _ ea4
    have wfS : WfQ ⟨cs', as⟩ ↔ ((List.range cs'.length).map (widK kvs cs')).all id = true := by
      rw [widK_all wd fun _ => Iff.rfl]
      constructor
      · exact fun z => z.c.same
      · exact fun z => ⟨pq.c.wf ic (by show 1 ≤ cs'.length; omega) (by show cs'.length ≤ 8; omega) (by omega) z, nd, askc⟩
    refine ⟨_, rfl, d, V.ref lc, rfl, DGet.k (k := Sum.inr "clauses") h13, lc, rfl, ⟨_, SqL.of h23⟩, fun D hD => lc_sieve (f := fun i => .ref (tp.getD i 0)) (keep := fun i => !widK kvs cs' i) (walk_list (K := K) (a := lc) (xs := tp.map V.ref)) (by rw [List.length_map, sizeLine_eq]; omega) hD (fun H6 s6 => SqL.of (s6 _ _ h23)) ?_ gName_mono ?_⟩
    · rintro i x H8 H9 hi s8 ⟨rfl, hx⟩
      rw [List.getElem?_map] at hx
      obtain ⟨t, ht, rfl⟩ := Option.map_eq_some_iff.mp hx
      obtain ⟨hti, et⟩ := List.getElem?_eq_some_iff.mp ht
      obtain ⟨c, hci, hA⟩ := h33.at_ i hti
      rw [et] at hA
      have ec : cs'.getD i ("", []) = c := by simp [List.getD, hci]
      have et2 : tp.getD i 0 = t := by simp [List.getD, ht]
      obtain ⟨t2, g1, g2⟩ := hA.same s8
      obtain ⟨c', m1, m2, m3⟩ := wd c (List.mem_of_getElem? hci)
      rw [et2]
      refine ⟨rfl, fun R q => ?_, fun _ Q' H10 s10 q => ⟨_, rfl, q H10 s10⟩⟩
      have dg : DGet H9 a4 (V.str c.1) (some (V.int c'.2.length)) := by
        rw [← m3]
        exact DGet.k (k := Sum.inr c.1) (s8 _ _ ea3)
      refine ⟨_, rfl, t, _, _, .ref t2, rfl, rfl, SqT.of g1, atI_nat (j := 1) rfl, t2, _, rfl, .inr (SqT.of g2), _, rfl, _, rfl, t, _, _, .str c.1, rfl, rfl, SqT.of g1, atI_nat (j := 0) rfl, a4, V.int c'.2.length, rfl, dg, rfl, _, rfl, ?_⟩
      have q' := q _ K0.Same.rfl'
      unfold widK at q'
      rw [ec, m3] at q'
      rw [List.length_map]
      have e : decide (V.int (c.2.length : Int) = V.int (c'.2.length : Int)) = decide (some (V.int (c.2.length : Int)) = some (V.int (c'.2.length : Int))) := decide_eq_decide.mpr ⟨fun z => by rw [z], fun z => by injection z⟩
      rw [e]
      exact q'
    intro H8 s8 hD8
    rw [List.length_map, lt] at hD8
    refine ⟨_, rfl, Nat.zero_le _, fun e he => ?_⟩
    have nde : D ≠ e := ne_of_none hD8 he
    have s9 := K0.Same.tr s8 (K0.Same.new (.lst []) he)
    have lay : ∀ c ∈ cs', (dC c).canLay0 = true := fun c hc => dC_lay (nameS_ok (pq.c.tab c hc)) fun k hk => nameS_ok (pq.c.nam c hc k hk)
    have inI : ∀ i ∈ (List.range cs'.length).filter fun i => !widK kvs cs' i, i < cs'.length := fun i hi => List.mem_range.mp (List.mem_filter.mp hi).1
    have eds : (((List.range cs'.length).filter fun i => !widK kvs cs' i).map fun i => dC (cs'.getD i ("", []))) = (((List.range cs'.length).filter fun i => !widK kvs cs' i).map fun i => cs'.getD i ("", [])).map dC := by rw [List.map_map]; rfl
    refine ⟨.list (((List.range cs'.length).filter fun i => !widK kvs cs' i).map fun i => dC (cs'.getD i ("", []))), .list [], .lst (SqL.of (by rw [upd_ne nde]; exact hD8)) (dp_cls (h33.same s9) _ inI), .lst (SqL.of upd_same) .nil, ?_, rfl, _, rfl, ?_⟩
    · rw [eds]
      refine dCs_shapedL fun c hc => ?_
      obtain ⟨i, hi, rfl⟩ := List.mem_map.mp hc
      exact lay _ (getD_mem (inI i hi))
    rw [eqv_nil, List.isEmpty_map, none_left (widK kvs cs')]
    have s39 := K0.Same.tr s3 s9
    refine if_both (fun c5 => ?_) (fun c5 => ?_)
    · exact ⟨_, rfl, k cs' _ _ (K0.Same.tr s12 s39) srt (.inl ⟨wfS.mpr c5, d, rfl, pl2.same s39⟩)⟩
    · refine qres _ s39 fun z => ?_
      rw [wfS.mp z] at c5
      cases c5
end
end K0

/-! ## Y18 -/
set_option maxRecDepth 100000
set_option maxHeartbeats 8000000
namespace K0
open PySem L2 NS RZ
/-! ### a method with a star parameter, called without arguments -/
theorem pe_methR0 {X : Cx} {CX : CXT} {k : Nat} {C f : Addr} {m : Str} {sp : Sp} {E : XK} {o : Expr} {ta : TE} {apos pos : Pos} {pl : Sem Bool} (he : PE X o ta) (c : L2.Cls X.K C) (hm : Meth X.K C m f)
    (F : FnR X.prog X.w X.K X.mg X.base CX k f sp) (hr : Room k X.A) (hx : Passes CX X E)
    (ht : eval (.Call (.Attribute o m apos) [] [] pos) X.env = (do
      let ov ← eval o X.env
      standAt apos.atName
      let (f, first) ← holding [ov] (getMethod ov m pl)
      callWith pos f first (backTo pos (starEach [] X.env)) (backToKw pos (keywordEach [] X.env))) := by rfl) :
    PE X (.Call (.Attribute o m apos) [] [] pos) (tMethR C m sp E ta tNil) := by
  refine ⟨fun pins s σ H Q I h => PySem.W.methodCall_KW (pl := pl) (thn (he.run pins s σ H _ I h) fun u s1 ⟨x, H1, I1, rx, a, dx, fs, ex, ea, l, q⟩ => ?_) ht⟩
  subst ex
  obtain rfl : u = Value.ref a := rx
  have z := run_fnR (us := [Value.ref a]) (vs := [V.ref a]) F hr hx I1 (.cons rfl .nil) q
  exact getmeth_ok I1 ea c hm l (PySem.W.callWith_K0 (first := [Value.ref a]) I1.kIn hm.kp (wpAny_call z))
/-! ### asking for some -/
abbrev sAsome : Stmt := top 48
def spAsome (K : PySem.W.Frag) (C : Addr) : Sp := fun vs H Q _ => ∃ (p a : Addr) (q : PQ) (as : List Str), vs = [.ref p, .ref a] ∧ SqL K H a (as.map V.str) ∧ QuO K C H p q ∧ WfQ q ∧ AskG q as ∧ ∀ p' H', Same H H' → QuO K C H' p' ⟨q.cls, as⟩ → Q (.ref p') H'
abbrev nAsome : List Str := ["_law_question_here", "_law_columns_here", "_law_a", "_law_b", "_law_c"]
theorem scAsome : FnScope nAsome ["_law_question_here", "_law_columns_here"] (defScope sAsome) := ⟨rfl, rfl, rfl, by decide +kernel, rfl, by decide +kernel, by decide +kernel⟩
section
variable {P : Program} {w : World} {K : PySem.W.Frag} {mg : Str → Option Value} {base : Heap} {C fA : Addr}
theorem ok_asome {f : Addr} {fd : FuncData} (F : Fun K "_law_asking_some" "_law_asking_some" sAsome f fd) (list : mg "list" = none) (len : mg "len" = none) (T : TQu K C) (hm : Meth K C "asking" fA) (FA : FnR P w K mg base (L2.CX P w) 8 fA (spAskQ K C)) :
    FnOk P w K mg base CX0 9 f fd ["_law_question_here", "_law_columns_here"] (spAsome K C) := by
  refine F.ok scAsome (fun vs H Q E h => ?_) (fun cdv A outer s H vs Q E hr h => ?_)
  · obtain ⟨p, a, q, as, rfl, _⟩ := h
    rfl
  · obtain ⟨p, a, q, as, rfl, ha, qo, g, ag, k⟩ := h
    refine ⟨_, pss_cons (ps_asg (pe_slice sl_list (pe_op op_cat (pe_callTy call_list_of (by rfl) list (by decide +kernel) (pa_cons (pv 1) pa_nil)) (pe_op op_rep (pe_lst (pa_cons pe_non pa_nil)) pe_int)) po_none (po_some pe_int)) (pg_lst rfl (pgs_cons (pg_name (i := 2) scAsome.nd rfl (Or.inl rfl)) (pgs_cons (pg_name (i := 3) scAsome.nd rfl (Or.inl rfl)) (pgs_cons (pg_name (i := 4) scAsome.nd rfl (Or.inl rfl)) pgs_nil)))))
      (pss_cons (ps_if (pt_cmpR op_eq (pe_callB call_len_seq (by rfl) len PySem.boot_len (pa_cons (pv 1) pa_nil)) pe_int (nomark _)) (pss_one (ps_ret (pe_methR0 (E := fun _ _ _ => False) (pv 0) T.cl hm FA hr passF))) pss_nil)
      (pss_cons (ps_if (pt_cmpR op_eq (pe_callB call_len_seq (by rfl) len PySem.boot_len (pa_cons (pv 1) pa_nil)) pe_int (nomark _)) (pss_one (ps_ret (pe_methR (E := fun _ _ _ => False) (pv 0) T.cl hm FA hr passF (pa_cons (pv 2) pa_nil)))) pss_nil)
      (pss_one (ps_ret (pe_ifExp (pt_cmpR op_eq (pe_callB call_len_seq (by rfl) len PySem.boot_len (pa_cons (pv 1) pa_nil)) pe_int (nomark _)) (pe_methR (E := fun _ _ _ => False) (pv 0) T.cl hm FA hr passF (pa_cons (pv 2) (pa_cons (pv 3) pa_nil)))
        (pe_methR (E := fun _ _ _ => False) (pv 0) T.cl hm FA hr passF (pa_cons (pv 2) (pa_cons (pv 3) (pa_cons (pv 4) pa_nil))))))))), ?_⟩
    have n3 := ag.2.2
    refine ⟨_, rfl, a, _, rfl, .inl ha, fun l hl => ⟨by show 1 ≤ sizeLine; decide, fun m hm2 => ?_⟩⟩
    have s1 := K0.Same.new (.lst (as.map V.str)) hl
    have s2 := K0.Same.new (.lst [.non]) hm2
    refine ⟨m, 3, [.non], rfl, rfl, upd_same, by decide, by decide, by show 1 * 3 ≤ sizeLine; rw [sizeLine_eq]; decide, fun m2 hm3 => ?_⟩
    have s3 := K0.Same.new (.lst (List.replicate (3 : Int).toNat [V.non]).flatten) hm3
    refine ⟨l, m2, as.map V.str, _, rfl, rfl, s3 _ _ (s2 _ _ upd_same), upd_same, by show (as.map V.str).length + 3 ≤ sizeLine; rw [List.length_map, sizeLine_eq]; omega, fun c hc => ?_⟩
    have s4 := K0.Same.new (.lst (as.map V.str ++ (List.replicate (3 : Int).toNat [V.non]).flatten)) hc
    refine ⟨3, rfl, c, _, rfl, SqL.of upd_same, fun d hd => ?_⟩
    have s5 := K0.Same.new (.lst (cutV (as.map V.str ++ (List.replicate (3 : Int).toNat [V.non]).flatten) none (some 3))) hd
    have sF := K0.Same.tr s1 (K0.Same.tr s2 (K0.Same.tr s3 (K0.Same.tr s4 s5)))
    have haF := sF.seq ha
    have qoF := qo.same sF
    obtain ⟨tc, ta, to, td, ts, ns, U⟩ := id qoF
    obtain ⟨dx, ep⟩ := U.ob
    have kF : ∀ p' H', Same _ H' → QuO K C H' p' ⟨q.cls, as⟩ → Q (.ref p') H' := fun p' H' s' => k p' H' (K0.Same.tr sF s')
    refine ⟨d, _, rfl, SqL.of upd_same, ?_⟩
    clear s1 s2 s3 s4 s5 k ha hl hm2 hm3 hc
    have no : (qFs tc ta to td).lookup ("asking" : Str) = none := qFs_no (by decide +kernel) (by decide +kernel) (by decide +kernel) (by decide +kernel)
    rcases as with _ | ⟨x1, _ | ⟨x2, _ | ⟨x3, _ | ⟨x4, as⟩⟩⟩⟩
    · refine ⟨rfl, _, _, rfl, _, _, rfl, _, _, rfl, rfl, ?_⟩
      refine ⟨_, rfl, a, _, rfl, .inl haF, rfl, _, rfl, if_pos_of rfl ?_⟩
      exact ⟨_, rfl, p, dx, _, rfl, ep, no, p, q, [], rfl, qoF, g, ag, kF⟩
    · refine ⟨rfl, _, _, rfl, _, _, rfl, _, _, rfl, rfl, ?_⟩
      refine ⟨_, rfl, a, _, rfl, .inl haF, rfl, _, rfl, if_neg_of rfl ?_⟩
      refine ⟨_, rfl, a, _, rfl, .inl haF, rfl, _, rfl, if_pos_of rfl ?_⟩
      exact ⟨_, rfl, p, dx, _, rfl, ep, no, _, rfl, p, q, [x1], rfl, qoF, g, ag, kF⟩
    · refine ⟨rfl, _, _, rfl, _, _, rfl, _, _, rfl, rfl, ?_⟩
      refine ⟨_, rfl, a, _, rfl, .inl haF, rfl, _, rfl, if_neg_of rfl ?_⟩
      refine ⟨_, rfl, a, _, rfl, .inl haF, rfl, _, rfl, if_neg_of rfl ?_⟩
      refine ⟨_, rfl, a, _, rfl, .inl haF, rfl, _, rfl, if_pos_of rfl ?_⟩
      exact ⟨_, rfl, p, dx, _, rfl, ep, no, _, rfl, _, rfl, p, q, [x1, x2], rfl, qoF, g, ag, kF⟩
    · refine ⟨rfl, _, _, rfl, _, _, rfl, _, _, rfl, rfl, ?_⟩
      refine ⟨_, rfl, a, _, rfl, .inl haF, rfl, _, rfl, if_neg_of rfl ?_⟩
      refine ⟨_, rfl, a, _, rfl, .inl haF, rfl, _, rfl, if_neg_of rfl ?_⟩
      refine ⟨_, rfl, a, _, rfl, .inl haF, rfl, _, rfl, if_neg_of rfl ?_⟩
      exact ⟨_, rfl, p, dx, _, rfl, ep, no, _, rfl, _, rfl, _, rfl, p, q, [x1, x2, x3], rfl, qoF, g, ag, kF⟩
    · simp only [List.length_cons] at n3
      omega
end
end K0

/-! ## G1k -/
set_option maxRecDepth 100000
set_option maxHeartbeats 2000000
namespace K0
open PySem PySem.Spec PyProof.Rows L2
/-! ### try with several clauses, each with a name or without -/
abbrev Cl : Type := Value × Option Nat × (Addr → Value → Option Addr → TS)
def unS (D : Ends) (i : Nat) : Ends := { nx := fun σ' H' => D.nx (σ'.set i none) H', rt := D.rt, bk := fun σ' H' => D.bk (σ'.set i none) H', ct := fun σ' H' => D.ct (σ'.set i none) H' }
def wCl (K : PySem.W.Frag) (Wo : WX) (D : Ends) : List Cl → WX
  | [] => Wo
  | (c, none, ts) :: r => fun cls d σ H => ∃ b, PySem.W.exmOne K cls c = some b ∧ (b = true → ∀ a, H a = none → ts a cls d D σ H) ∧ (b = false → wCl K Wo D r cls d σ H)
  | (c, some i, ts) :: r => fun cls d σ H => ∃ b, PySem.W.exmOne K cls c = some b ∧ (b = true → ∀ a, H a = none → ts a cls d (unS D i) (σ.set i (some (.ref a))) H) ∧ (b = false → wCl K Wo D r cls d σ H)
inductive ClOk (X : Cx) : List ExceptHandler → List Cl → Prop
  | nil : ClOk X [] []
  | plain {x : Str} {c : Value} {ts : Addr → Value → Option Addr → TS} {b₀ : Stmt} {suite : List Stmt} {np pos' : Pos} {hs : List ExceptHandler} {l : List Cl} (hc : Names X x c)
      (hu : ∀ (a : Addr) (ox : Obj) (cls : Value) (d : Option Addr) (pn : List (Addr × Obj)), Zc cls d ox → (∃ vs, ox.data = .fields vs) → PSs (X.suite a ((a, ox) :: pn)) (b₀ :: suite) (ts a cls d)) (r : ClOk X hs l) :
      ClOk X (.ExceptHandler (some (.Name x np)) none (b₀ :: suite) pos' :: hs) ((c, none, ts) :: l)
  | named {x n : Str} {i : Nat} {c : Value} {ts : Addr → Value → Option Addr → TS} {b₀ : Stmt} {suite : List Stmt} {np pos' : Pos} {hs : List ExceptHandler} {l : List Cl} (hc : Names X x c) (hN : X.N.Nodup) (hi : X.N[i]? = some n) (hln : X.env.kindOf n = some .local)
      (hu : ∀ (a : Addr) (ox : Obj) (cls : Value) (d : Option Addr) (pn : List (Addr × Obj)), Zc cls d ox → (∃ vs, ox.data = .fields vs) → PSs (X.suite a ((a, ox) :: pn)) (b₀ :: suite) (ts a cls d)) (r : ClOk X hs l) :
      ClOk X (.ExceptHandler (some (.Name x np)) (some n) (b₀ :: suite) pos' :: hs) ((c, some i, ts) :: l)
section
variable {X : Cx} {body : List Stmt} {h₀ : ExceptHandler} {hs : List ExceptHandler} {l : List Cl} {pos : Pos} {tb : WX → TS} {Wo : WX}
theorem ps_tryC (hst : X.stack = X.env :: X.outer) (hf : X.env.frame = some X.env.locals) (tk : Takes X Wo)
    (hb : ∀ (W : WX) (pn : List (Addr × Obj)) (xr : Value → Shared → Prop), Takes (X.tr pn xr) W → PassesOwn (model X.prog X.w) X.A X.env xr → PSs (X.tr pn xr) body (tb W))
    (hh : ClOk X (h₀ :: hs) l) : PS X (.Try body (h₀ :: hs) [] [] pos) (fun D σ H => tb (wCl X.K Wo D l) D σ H) := by
  refine ⟨fun pins s σ H D I h => ?_⟩
  have ok := I.ok
  have fr1 : X.A.frames = some (X.env :: X.outer) := by rw [ok.frames, hst]
  refine wpAny_Try_except (wpAny_mono ((hb (wCl X.K Wo D l) (X.pn ++ pins) (fun e y1 => wpAny (model X.prog X.w) X.A (noteFrame e X.env) (fun _ y2 => wpAny (model X.prog X.w) X.A (setFlight e none) (fun _ y3 =>
    wpAny (model X.prog X.w) X.A (handleBy e X.env (h₀ :: hs)) (SP X pins D) X.xe y3) X.xe y2) X.xe y1) (fun u s' xx => ?_) PassesOwn.looking).run [] s σ H D (I.toTry _) h) (fun f s1 hsp => ?_) (fun e s1 he => he))
  · obtain ⟨a, B, sI, pins', σ', H', cls, d, rfl, Jt, nb, up, sky, nad, os, ag, w⟩ := xx
    have Jn : Inv X pins σ' H' sI := Jt.ofTry ok
    have sk : Sky B (X.env :: X.outer) a (Zc cls d) X.env.locals s'.heap := by rw [← hst]; exact sky
    show wpAny (model X.prog X.w) X.A (noteFrame (.ref a) X.env) _ _ _
    refine Sky.land Zc.steady fr1 hf sk fun h3 fa upa => ?_
    have Ja : Inv X pins σ' H' { s' with heap := h3 } := Jn.landed nb fa.1 (up.trans upa) os ag
    obtain ⟨oa, va, ea, za, da⟩ := fa.there
    have nofrm : ∀ {h : Heap} {o : Obj} {vs : Array Value}, h.FunFrames B (X.env :: X.outer) → h.get? a = some o → o.data = .fields vs → a ∉ frs (X.env :: X.outer) := fun {h o vs} ff e dd hmem => by
      obtain ⟨_, o', e', nof⟩ := ff.mem hmem
      rw [e] at e'
      cases e'
      exact nof _ dd
    have nf0 := nofrm fa.2.2.1 ea da
    have nlv : a ≠ X.env.locals := fun z => nf0 (List.mem_filterMap.mpr ⟨X.env, List.mem_cons_self, by rw [hf, z]⟩)
    have nfs : a ∉ X.fs := fun hmem => by
      obtain ⟨e, he, q⟩ := List.mem_filterMap.mp hmem
      exact nf0 (List.mem_filterMap.mpr ⟨e, List.mem_cons_of_mem _ he, q⟩)
    have Sa := Ja.suite ea da nad nlv nfs
    have lks : PySem.W.Looks (model X.prog X.w) h3 (typeOf (.ref a)) cls := fun A Q E s k q => wpAny_typeOf_ref (k _ _ ea) (by rw [za.1]; exact q)
    have tst : ∀ {x : Str} {c : Value} {np : Pos} {Q : Value → Shared → Prop} {E : Value → Shared → Prop}, Names X x c → Q c { s' with heap := h3 } → wpAny (model X.prog X.w) (X.A.mark (some (.ref a))) (eval (.Name x np) X.env) Q E { s' with heap := h3 } := fun {x c np Q E} hc q => by
      obtain ⟨hg, hdg, hmem | ⟨hmem, hv, hnn⟩⟩ := hc
      · exact ld_glob (X := X.suite a ((a, oa) :: (X.pn ++ pins))) Sa hg hmem q hdg
      · exact ld_blt (X := X.suite a ((a, oa) :: (X.pn ++ pins))) Sa hg hmem hv q hnn hdg
    have go : ∀ {hs2 : List ExceptHandler} {l2 : List Cl}, ClOk X hs2 l2 → wCl X.K Wo D l2 cls d σ' H' → wpAny (model X.prog X.w) X.A (handleBy (.ref a) X.env hs2) (SP X pins D) X.xe { s' with heap := h3 } := by
      intro hs2 l2 hk
      induction hk with
      | nil =>
        intro w
        refine wpAny_handleBy_nil ?_
        obtain ⟨ka, kb, kc, ox, vs, T, oT, ts', he, hz, hd, h1, hr⟩ := id fa
        unfold PySem.passOn
        refine wpAny_bind (wpAny_field he hd h1 ?_)
        rw [if_neg (show ¬ ((Value.ref T == Value.none) = true) from by simp)]
        have fin : wpAny (model X.prog X.w) X.A (setFlight (.ref a) X.env.frame) (fun _ y4 => wpAny (model X.prog X.w) X.A (throw (.ref a) : Sem Flow) (SP X pins D) X.xe y4) X.xe { s' with heap := h3 } := by
          rw [hf]
          refine HandSPX.setFlight_upZ fa fun h4 hh4 upb => wpAny_throw (tk _ _ ?_)
          exact ⟨a, B, sI, pins, σ', H', cls, d, rfl, Jn, nb, (up.trans upa).trans upb, .inr (.inr (by rw [hst]; exact hh4)), nad, os, ag, w⟩
        first
          | exact wpAny_bind (wpAny_pure (wpAny_bind fin))
          | exact wpAny_bind fin
      | @plain x c ts b₀ suite np pos' hs3 l3 hc hu r ih =>
        intro w
        obtain ⟨b, e1, yes, no⟩ := w
        refine wpAny_handleBy_cons (codeAny_handlers_test ?_) (by intro q; cases q)
        have LM := PySem.W.exm_one (M := model X.prog X.w) (Ja.kIn) lks e1
        refine tst hc (LM.here ?_)
        cases b with
        | true =>
          refine codeAny_handlers_suite (HandSPX.lands_againZ fa fun h4 fb upb => ?_)
          have Jb : Inv X pins σ' H' { s' with heap := h4 } := Jn.landed nb fb.1 ((up.trans upa).trans upb) os ag
          obtain ⟨ob, vb, eb, zb, db⟩ := fb.there
          have Sb := Jb.suite eb db nad nlv nfs
          refine wpAny_mono ((hu a ob cls d (X.pn ++ pins) zb ⟨_, db⟩).run [] _ _ H' _ Sb (yes rfl a nad)) (fun f s6 hsp => ?_) (fun _ _ z => False.elim z)
          rcases f with _ | _ | _ | u
          · obtain ⟨σ6, H6, Sc, qz⟩ := hsp
            exact ⟨_, _, Sc.unsuite ok, qz⟩
          · obtain ⟨σ6, H6, Sc, qz⟩ := hsp
            exact ⟨_, _, Sc.unsuite ok, qz⟩
          · obtain ⟨σ6, H6, Sc, qz⟩ := hsp
            exact ⟨_, _, Sc.unsuite ok, qz⟩
          · obtain ⟨v6, σ6, H6, Sc, r6, qz⟩ := hsp
            exact ⟨_, _, _, Sc.unsuite ok, r6, qz⟩
        | false =>
          show wpAny _ X.A (handleBy (.ref a) X.env hs3) _ _ _
          exact ih (no rfl)
      | @named x n i c ts b₀ suite np pos' hs3 l3 hc hN hi hln hu r ih =>
        intro w
        obtain ⟨b, e1, yes, no⟩ := w
        have isLoc : Loc X.env.scope n := .inl hln
        refine wpAny_handleBy_cons (codeAny_handlers_test ?_) (by intro q; cases q)
        have LM := PySem.W.exm_one (M := model X.prog X.w) (Ja.kIn) lks e1
        refine tst hc (LM.here ?_)
        cases b with
        | true =>
          refine codeAny_handlers_suite_as (HandSPX.lands_againZ fa fun h4 fb upb => ?_)
          have Jb : Inv X pins σ' H' { s' with heap := h4 } := Jn.landed nb fb.1 ((up.trans upa).trans upb) os ag
          obtain ⟨ob, vb, eb, zb, db⟩ := fb.there
          have Sb := Jb.suite eb db nad nlv nfs
          refine store_ok (X := X.suite a ((a, ob) :: (X.pn ++ pins))) (v := .ref a) Sb hN hi isLoc rfl (fun s5 Sm => ?_) (.inr hln)
          refine wpAny_mono ((hu a ob cls d (X.pn ++ pins) zb ⟨_, db⟩).run [] s5 _ H' _ Sm (yes rfl a nad)) (fun f s6 hsp => ?_) (fun _ _ z => False.elim z)
          have off : ∀ {σ6 : L2.St} {H6 : Hp} {Q : Shared → Prop}, Inv (X.suite a ((a, ob) :: (X.pn ++ pins))) [] σ6 H6 s6 → (∀ s7, Inv X pins (σ6.set i none) H6 s7 → Q s7) →
              wpAny (model X.prog X.w) X.A (do bindName X.env n .none; unbindBehindTheSuite X.env n pos') (fun _ s7 => Q s7) X.xe s6 := fun {σ6 H6 Q} Sc hq => gone_ok (Sc.unsuite ok) hN hi hln hq
          rcases f with _ | _ | _ | u
          · obtain ⟨σ6, H6, Sc, qz⟩ := hsp
            exact off Sc fun s7 J7 => ⟨_, _, J7, qz⟩
          · obtain ⟨σ6, H6, Sc, qz⟩ := hsp
            exact off Sc fun s7 J7 => ⟨_, _, J7, qz⟩
          · obtain ⟨σ6, H6, Sc, qz⟩ := hsp
            exact off Sc fun s7 J7 => ⟨_, _, J7, qz⟩
          · obtain ⟨v6, σ6, H6, Sc, r6, qz⟩ := hsp
            exact off Sc fun s7 J7 => ⟨_, _, _, J7, r6, qz⟩
        | false =>
          show wpAny _ X.A (handleBy (.ref a) X.env hs3) _ _ _
          exact ih (no rfl)
    exact go hh w
  · rcases f with _ | _ | _ | u
    · obtain ⟨σ', H', Jt, q⟩ := hsp
      exact wpAny_execs_nil ⟨σ', H', Jt.ofTry ok, q⟩
    · obtain ⟨σ', H', Jt, q⟩ := hsp
      exact ⟨σ', H', Jt.ofTry ok, q⟩
    · obtain ⟨σ', H', Jt, q⟩ := hsp
      exact ⟨σ', H', Jt.ofTry ok, q⟩
    · obtain ⟨v, σ', H', Jt, r, q⟩ := hsp
      exact ⟨v, σ', H', Jt.ofTry ok, r, q⟩
end
end K0

/-! ## G14 -/
set_option maxRecDepth 100000
set_option maxHeartbeats 8000000
namespace K0
open PySem PySem.Spec PyProof.Rows L2
/-! ### the heap but the tables of code objects -/
abbrev Ex := LamX.ExtN
theorem Ex.of {H H' : Hp} (s : Same H H') : Ex H H' := fun b o e _ => s b o e
theorem Ex.tr {A B C : Hp} (a : Ex A B) (b : Ex B C) : Ex A C := LamX.ExtN.trans a b
/-- all but the dice and the tables stay -/
def Kt (p : Addr) (H H' : Hp) : Prop := ∀ b o, b ≠ p → H b = some o → (∀ ps, o ≠ .tbl ps) → H' b = some o
theorem Kt.of {p : Addr} {H H' : Hp} (k : Kd p H H') : Kt p H H' := fun b o n e _ => k b o n e
theorem Kt.ex {p : Addr} {H H' : Hp} (k : Ex H H') : Kt p H H' := fun b o _ e t => k b o e t
theorem Kt.tr {p : Addr} {A B C : Hp} (a : Kt p A B) (b : Kt p B C) : Kt p A C := fun c o n e t => b c o n (a c o n e t) t
theorem lst_t {xs : List V} : ∀ ps, HO.lst xs ≠ .tbl ps := fun _ z => by cases z
theorem tup_t {xs : List V} : ∀ ps, HO.tup xs ≠ .tbl ps := fun _ z => by cases z
theorem dK_t {xs : List (Key × V)} : ∀ ps, HO.dK xs ≠ .tbl ps := fun _ z => by cases z
theorem xd_t {xs : List (Str × V)} : ∀ ps, HO.xd xs ≠ .tbl ps := fun _ z => by cases z
theorem DiceAt.ex {H H' : Hp} {p : Addr} (d : DiceAt H p) (e : Ex H H') : DiceAt H' p := by
  obtain ⟨x, y, z, h⟩ := d
  exact ⟨x, y, z, e _ _ h lst_t⟩
theorem tabs_kd {T : List (Addr × Str)} {H H' : Hp} {p : Addr} (t : LamX.Tabs T H) (d : DiceAt H p) (k : Kd p H H') : LamX.Tabs T H' := fun c hc => by
  obtain ⟨ps, h1, h2, h3⟩ := t c hc
  obtain ⟨x, y, z, e⟩ := d
  refine ⟨ps, k _ _ (fun q => ?_) h1, h2, fun pos cv hq => ?_⟩
  · rw [q, e] at h1
    cases h1
  · obtain ⟨c2, e1, e2⟩ := h3 pos cv hq
    refine ⟨c2, e1, k _ _ (fun q => ?_) e2⟩
    rw [q, e] at e2
    unfold LamX.CodeO at e2
    cases e2
theorem tabs_same {T : List (Addr × Str)} {H H' : Hp} (t : LamX.Tabs T H) (s : Same H H') : LamX.Tabs T H' := t.ext s
/-- a def whose code object is at c -/
structure FunC (K : PySem.W.Frag) (x qual : Str) (st : Stmt) (f : Addr) (fd : FuncData) (c : Addr) : Prop where
  ex : ∃ (oc : Value) (od : Option Addr) (kV doc pm : Value) (an : Option Addr) (ct : Value) (osl : Array (Option Value)), fd = PySem.W.fnOf x qual (defArgs st) (defBody st) (defScope st) .none kV doc pm an (.ref c) ct ∧
    K.lookup f = some ⟨oc, od, .func (PySem.W.fnOf x qual (defArgs st) (defBody st) (defScope st) .none kV doc pm an (.ref c) ct), osl⟩ ∧ PySem.W.codeIn K (.ref c) qual = true
  kp : PySem.W.keepIn K (.ref f) = true
section
variable {P : Program} {w : World} {K : PySem.W.Frag} {mg : Str → Option Value} {base : Heap}
theorem FunC.fn {x qual : Str} {st : Stmt} {f c : Addr} {fd : FuncData} (F : FunC K x qual st f fd c) : Fun K x qual st f fd := by
  obtain ⟨oc, od, kV, doc, pm, an, ct, osl, rfl, lk, hcd⟩ := F.ex
  exact ⟨⟨oc, od, kV, doc, pm, an, _, ct, osl, rfl, lk, hcd⟩, F.kp⟩
/-- such a def's body, where nothing is being shown -/
theorem gfnC {x qual : Str} {st : Stmt} {f c : Addr} {fd : FuncData} {N ps : List Str} {k : Nat} {sp : Sp} {CX : CXT} (F : FunC K x qual st f fd c) (S : FnScope N ps (defScope st)) (len : ∀ vs H Q E, sp vs H Q E → vs.length = ps.length)
    (hbody : ∀ (A : Around) (outer : List Env) (s : Shared) (H : Hp) (vs : List V) (Q : VK) (E : XK), Room k (A.deeper (envOfC qual (defScope st) s.heap.objs.size f (.ref c))) → (A.deeper (envOfC qual (defScope st) s.heap.objs.size f (.ref c))).guards = some [] → sp vs H Q E →
      ∃ t, PSs (cxOf CX P w K mg base N qual (defScope st) f (.ref c) A outer s H E) (defBody st) t ∧ t { nx := fun _ H' => Q .non H', rt := Q } (L2.start N vs) H) : FnG P w K mg base CX (k + 1) f fd ps sp := by
  obtain ⟨oc, od, kV, doc, pm, an, ct, osl, rfl, lk, hcd⟩ := F.ex
  refine ⟨len, fun A outer s H args us vs Q E hr hgd e0 hb r hsp => ?_⟩
  have hl := len _ _ _ _ hsp
  have KX : K.In s.heap := e0.mod.kin.keeps fun b o e => (e0.bs b o e).1
  have lim : s.heap.NoLimit := e0.mod.nolimit.keeps fun b o e => (e0.bs b o e).1
  have kinds : ∀ y ∈ ps.zip us, (defScope st).names.lookup y.1 = some .local ∨ ((defScope st).names.lookup y.1 = some .cell ∧ ((cellsFrom (s.heap.objs.size + 1) (defScope st).names []).lookup y.1).isSome = true) := fun ⟨n, v⟩ hy => by
    rcases S.par n (List.of_mem_zip hy).1 with q | q
    · exact .inl q
    · exact .inr ⟨q, PySem.W.cellsFrom_some _ _ _ (.inl q)⟩
  refine codeAny_call_function hr.depth (KX _ _ lk) rfl S.co S.gen rfl (PySem.W.codeRec_of KX hcd) (hb _ _ _ _ (wpAny_newFunctionEnv_cells S.kind kinds fun env he s1 x => ?_))
  subst he
  refine ⟨lim.keeps x.toInCall.keep, codeAny_func ?_⟩
  obtain ⟨t, ht, hq⟩ := hbody A outer s H vs Q E (hr.deeper _) (by show A.guards = some []; exact hgd) hsp
  have I : Inv (cxOf CX P w K mg base N qual (defScope st) f (.ref c) A outer s H E) [] (L2.start N vs) H s1 := inv_start S hr.hd e0 hl r x
  have fin : ∀ {s' : Shared} {σ' : L2.St} {H' : Hp} {v : V} {u : Value}, Inv (cxOf CX P w K mg base N qual (defScope st) f (.ref c) A outer s H E) [] σ' H' s' → RelV v u → Q v H' → CE outer P w H s Q u s' :=
    fun {s' σ' H' v u} J rv q => ⟨v, H', J.os, J.bare, J.base, J.hok, rv, q⟩
  refine wpAny_mono (ht.run [] s1 (L2.start N vs) H _ I hq) (fun fl s' hs => ?_) fun e s' hs => hs
  rcases fl with _ | _ | _ | u
  · obtain ⟨σ', H', J, q⟩ := hs
    exact fin (v := V.non) (u := Value.none) J rfl q
  · obtain ⟨_, _, _, q⟩ := hs
    exact False.elim q
  · obtain ⟨_, _, _, q⟩ := hs
    exact False.elim q
  · obtain ⟨v, σ', H', J, rv, q⟩ := hs
    exact fin J rv q
end
end K0

/-! ## Y19 -/
set_option maxRecDepth 100000
set_option maxHeartbeats 8000000
namespace K0
open PySem PySem.Spec PyProof.Rows L2
/-! ### plain questions compared -/
theorem dStrs_shapedL {l : List Str} (h : ∀ k ∈ l, PyData.strOk k = true) : SeqAt.shaped (.list (l.map PyData.str)) = true := by
  unfold SeqAt.shaped
  have e : (PyData.list (l.map PyData.str)).canLay0 = true := layS_strs h
  have d : (PyData.list (l.map PyData.str)).depth ≤ 64 := by
    show PyData.depthAll (l.map PyData.str) + 1 ≤ 64
    rw [depth_strs]
    decide
  rw [e, decide_eq_true d]
  rfl
def rNeP : R2 := fun x y H Q => ∃ (a b : Addr) (q : PQ), x = .ref a ∧ y = .ref b ∧ PlA H a q ∧ PlA H b q ∧ WfQ q ∧ Q (.bl false) H
theorem op_neP {X : Cx} (hu : X.A.units + 66 < cLine) : OpR X (compareOp .NotEq) rNeP := by
  intro pins s σ H x y v u Q I rx ry h
  obtain ⟨a, b, q, rfl, rfl, pa, pb, g, k⟩ := h
  obtain rfl : v = Value.ref a := rx
  obtain rfl : u = Value.ref b := ry
  obtain ⟨lc, la, ts, h1, h2, h3, h4⟩ := pa
  obtain ⟨lc', la', ts', h1', h2', h3', h4'⟩ := pb
  obtain ⟨_, ya, va, ra, da⟩ := (show ObjOk X.prog X.w H s.heap a (.dK _) from I.hok a _ h1)
  obtain ⟨_, yb, vb, rb, db⟩ := (show ObjOk X.prog X.w H s.heap b (.dK _) from I.hok b _ h1')
  have d1 : Dp X.K H (.ref lc) (.list (q.cls.map dC)) := .lst (SqL.of h2) h3.dp
  have d2 : Dp X.K H (.ref la) (.list (q.asked.map PyData.str)) := .lst (SqL.of h4) (dpAll_strs _)
  have d1' : Dp X.K H (.ref lc') (.list (q.cls.map dC)) := .lst (SqL.of h2') h3'.dp
  have d2' : Dp X.K H (.ref la') (.list (q.asked.map PyData.str)) := .lst (SqL.of h4') (dpAll_strs _)
  obtain ⟨_, q1⟩ := Dp.reads I _ _ _ d1 (show RelV (.ref lc) (Value.ref lc) from rfl)
  obtain ⟨_, q2⟩ := Dp.reads I _ _ _ d2 (show RelV (.ref la) (Value.ref la) from rfl)
  obtain ⟨_, q1'⟩ := Dp.reads I _ _ _ d1' (show RelV (.ref lc') (Value.ref lc') from rfl)
  obtain ⟨_, q2'⟩ := Dp.reads I _ _ _ d2' (show RelV (.ref la') (Value.ref la') from rfl)
  have sC : SeqAt.shaped (.list (q.cls.map dC)) = true := dCs_shapedL g.c.lay
  have sA : SeqAt.shaped (.list (q.asked.map PyData.str)) = true := dStrs_shapedL fun k hk => nameS_ok (g.nam k hk)
  have eC : PyData.eqv (.list (q.cls.map dC)) (.list (q.cls.map dC)) = true := (eqv_dCs q.cls q.cls).trans (decide_eq_true rfl)
  have eA : PyData.eqv (.list (q.asked.map PyData.str)) (.list (q.asked.map PyData.str)) = true := (eqvAll_strs q.asked q.asked).trans (decide_eq_true rfl)
  have vals : ∀ {l l2 : Addr} {vs : List (Key × Value)}, KV [((Sum.inr "clauses" : Key), V.ref l), (Sum.inr "asked", V.ref l2)] vs → vs = [((Sum.inr "clauses" : Key), Value.ref l), (Sum.inr "asked", Value.ref l2)] := fun {l l2 vs} r => by
    cases r with
    | cons k1 kr =>
      rename_i b1 l1
      cases kr with
      | cons k2 kr =>
        rename_i b2 l3
        cases kr
        obtain ⟨a1, a2⟩ := k1
        obtain ⟨a3, a4⟩ := k2
        obtain ⟨kk1, vv1⟩ := b1
        obtain ⟨kk2, vv2⟩ := b2
        dsimp only at a1 a2 a3 a4
        subst a1
        subst a3
        obtain rfl : vv1 = Value.ref l := a2
        obtain rfl : vv2 = Value.ref l2 := a4
        rfl
  obtain rfl := vals ra
  obtain rfl := vals rb
  have hits : PySem.W.KeqHits X.A.in1 s [((Sum.inr "clauses" : Key), Value.ref lc'), (Sum.inr "asked", Value.ref la')] [((Sum.inr "clauses" : Key), Value.ref lc), (Sum.inr "asked", Value.ref la)] true := by
    have z2 := PySem.W.KeqHits.hit (A := X.A.in1) (s := s) (kb := [((Sum.inr ("clauses" : Str) : Key), Value.ref lc'), ((Sum.inr ("asked" : Str) : Key), Value.ref la')]) (k := (Sum.inr ("asked" : Str) : Key)) (y := Value.ref la') (r := []) rfl (PySem.W.keq_at (A := X.A) q2 q2' sA sA (by show X.A.units + 1 + 64 < cLine; omega)) .nil
    have z := PySem.W.KeqHits.hit (A := X.A.in1) (s := s) (kb := [((Sum.inr ("clauses" : Str) : Key), Value.ref lc'), ((Sum.inr ("asked" : Str) : Key), Value.ref la')]) (k := (Sum.inr ("clauses" : Str) : Key)) (y := Value.ref lc') rfl (PySem.W.keq_at (A := X.A) q1 q1' sC sC (by show X.A.units + 1 + 64 < cLine; omega)) z2
    rw [eC, eA] at z
    exact z
  exact PySem.W.keq_ne (knd := mixKind X.prog X.w) (r := true) ya yb da db (by omega) (fun _ => hits) ⟨.bl _, H, I, rfl, k⟩
def rEqP : R2 := fun x y H Q => ∃ (a b : Addr) (q : PQ), x = .ref a ∧ y = .ref b ∧ PlA H a q ∧ PlA H b q ∧ WfQ q ∧ Q (.bl true) H
theorem op_eqP {X : Cx} (hu : X.A.units + 66 < cLine) : OpR X (compareOp .Eq) rEqP := by
  intro pins s σ H x y v u Q I rx ry h
  obtain ⟨a, b, q, rfl, rfl, pa, pb, g, k⟩ := h
  obtain rfl : v = Value.ref a := rx
  obtain rfl : u = Value.ref b := ry
  obtain ⟨lc, la, ts, h1, h2, h3, h4⟩ := pa
  obtain ⟨lc', la', ts', h1', h2', h3', h4'⟩ := pb
  obtain ⟨_, ya, va, ra, da⟩ := (show ObjOk X.prog X.w H s.heap a (.dK _) from I.hok a _ h1)
  obtain ⟨_, yb, vb, rb, db⟩ := (show ObjOk X.prog X.w H s.heap b (.dK _) from I.hok b _ h1')
  have d1 : Dp X.K H (.ref lc) (.list (q.cls.map dC)) := .lst (SqL.of h2) h3.dp
  have d2 : Dp X.K H (.ref la) (.list (q.asked.map PyData.str)) := .lst (SqL.of h4) (dpAll_strs _)
  have d1' : Dp X.K H (.ref lc') (.list (q.cls.map dC)) := .lst (SqL.of h2') h3'.dp
  have d2' : Dp X.K H (.ref la') (.list (q.asked.map PyData.str)) := .lst (SqL.of h4') (dpAll_strs _)
  obtain ⟨_, q1⟩ := Dp.reads I _ _ _ d1 (show RelV (.ref lc) (Value.ref lc) from rfl)
  obtain ⟨_, q2⟩ := Dp.reads I _ _ _ d2 (show RelV (.ref la) (Value.ref la) from rfl)
  obtain ⟨_, q1'⟩ := Dp.reads I _ _ _ d1' (show RelV (.ref lc') (Value.ref lc') from rfl)
  obtain ⟨_, q2'⟩ := Dp.reads I _ _ _ d2' (show RelV (.ref la') (Value.ref la') from rfl)
  have sC : SeqAt.shaped (.list (q.cls.map dC)) = true := dCs_shapedL g.c.lay
  have sA : SeqAt.shaped (.list (q.asked.map PyData.str)) = true := dStrs_shapedL fun k hk => nameS_ok (g.nam k hk)
  have eC : PyData.eqv (.list (q.cls.map dC)) (.list (q.cls.map dC)) = true := (eqv_dCs q.cls q.cls).trans (decide_eq_true rfl)
  have eA : PyData.eqv (.list (q.asked.map PyData.str)) (.list (q.asked.map PyData.str)) = true := (eqvAll_strs q.asked q.asked).trans (decide_eq_true rfl)
  have vals : ∀ {l l2 : Addr} {vs : List (Key × Value)}, KV [((Sum.inr "clauses" : Key), V.ref l), (Sum.inr "asked", V.ref l2)] vs → vs = [((Sum.inr "clauses" : Key), Value.ref l), (Sum.inr "asked", Value.ref l2)] := fun {l l2 vs} r => by
    cases r with
    | cons k1 kr =>
      rename_i b1 l1
      cases kr with
      | cons k2 kr =>
        rename_i b2 l3
        cases kr
        obtain ⟨a1, a2⟩ := k1
        obtain ⟨a3, a4⟩ := k2
        obtain ⟨kk1, vv1⟩ := b1
        obtain ⟨kk2, vv2⟩ := b2
        dsimp only at a1 a2 a3 a4
        subst a1
        subst a3
        obtain rfl : vv1 = Value.ref l := a2
        obtain rfl : vv2 = Value.ref l2 := a4
        rfl
  obtain rfl := vals ra
  obtain rfl := vals rb
  have hits : PySem.W.KeqHits X.A.in1 s [((Sum.inr "clauses" : Key), Value.ref lc'), (Sum.inr "asked", Value.ref la')] [((Sum.inr "clauses" : Key), Value.ref lc), (Sum.inr "asked", Value.ref la)] true := by
    have z2 := PySem.W.KeqHits.hit (A := X.A.in1) (s := s) (kb := [((Sum.inr ("clauses" : Str) : Key), Value.ref lc'), ((Sum.inr ("asked" : Str) : Key), Value.ref la')]) (k := (Sum.inr ("asked" : Str) : Key)) (y := Value.ref la') (r := []) rfl (PySem.W.keq_at (A := X.A) q2 q2' sA sA (by show X.A.units + 1 + 64 < cLine; omega)) .nil
    have z := PySem.W.KeqHits.hit (A := X.A.in1) (s := s) (kb := [((Sum.inr ("clauses" : Str) : Key), Value.ref lc'), ((Sum.inr ("asked" : Str) : Key), Value.ref la')]) (k := (Sum.inr ("clauses" : Str) : Key)) (y := Value.ref lc') rfl (PySem.W.keq_at (A := X.A) q1 q1' sC sC (by show X.A.units + 1 + 64 < cLine; omega)) z2
    rw [eC, eA] at z
    exact z
  exact PySem.W.keq_eq (knd := mixKind X.prog X.w) (r := true) ya yb da db (by omega) (fun _ => hits) ⟨.bl _, H, I, rfl, k⟩
/-! ### what stays but for the dice and the tables -/
theorem DiceAt.no {H : Hp} {p a : Addr} {o : HO} (hp : DiceAt H p) (h : H a = some o) (n : ∀ xs, o ≠ .lst xs) : a ≠ p := fun e => by
  obtain ⟨x, y, z, q⟩ := hp
  rw [e, q] at h
  exact n _ (Option.some.inj h).symm
theorem kt_no {H H' : Hp} {p b : Addr} {o : HO} (k : Kt p H H') (hp : DiceAt H p) (e : H b = some o) (n : ∀ xs, o ≠ .lst xs) (t : ∀ ps, o ≠ .tbl ps) : H' b = some o := k _ _ (hp.no e n) e t
theorem sqT_kt {K : PySem.W.Frag} {H H' : Hp} {p a : Addr} {xs : List V} (hp : DiceAt H p) (k : Kt p H H') (h : SqT K H a xs) : SqT K H' a xs :=
  h.imp (fun r => r.imp (fun q => kt_no k hp q (fun _ z => by cases z) tup_t) fun ⟨o, q⟩ => ⟨o, kt_no k hp q (fun _ z => by cases z) (fun _ z => by cases z)⟩) id
theorem ClA.kt {H H' : Hp} {t p : Addr} {c : CL} (h : ClA H t c) (hp : DiceAt H p) (k : Kt p H H') : ClA H' t c := by
  obtain ⟨t2, h1, h2⟩ := h
  exact ⟨t2, kt_no k hp h1 (fun _ z => by cases z) tup_t, kt_no k hp h2 (fun _ z => by cases z) tup_t⟩
theorem Cls.kt {H H' : Hp} {p : Addr} (hp : DiceAt H p) (k : Kt p H H') : ∀ {ts : List Addr} {cs : List CL}, Cls H ts cs → Cls H' ts cs
  | _, _, .nil => .nil
  | _, _, .cons h r => .cons (h.kt hp k) (r.kt hp k)
theorem lstR_kt {H H' : Hp} {p b : Addr} {ts : List Addr} (hp : DiceAt H p) (k : Kt p H H') (e : H b = some (.lst (ts.map V.ref))) : H' b = some (.lst (ts.map V.ref)) := k _ _ (dice_ne hp e fun i m => by
  obtain ⟨t, _, e⟩ := List.mem_map.mp m
  cases e) e lst_t
theorem lstS_kt {H H' : Hp} {p b : Addr} {ts : List Str} (hp : DiceAt H p) (k : Kt p H H') (e : H b = some (.lst (ts.map V.str))) : H' b = some (.lst (ts.map V.str)) := k _ _ (dice_ne hp e fun i m => by
  obtain ⟨t, _, e⟩ := List.mem_map.mp m
  cases e) e lst_t
theorem PlA.kt {H H' : Hp} {d p : Addr} {q : PQ} (h : PlA H d q) (hp : DiceAt H p) (k : Kt p H H') : PlA H' d q := by
  obtain ⟨lc, la, ts, h1, h2, h3, h4⟩ := h
  exact ⟨lc, la, ts, kt_no k hp h1 (fun _ z => by cases z) dK_t, lstR_kt hp k h2, h3.kt hp k, lstS_kt hp k h4⟩
theorem QuA.kt {K : PySem.W.Frag} {C : Addr} {H H' : Hp} {p a : Addr} {q : PQ} {tc ta to td : Addr} {ts : List Addr} {ns : List Str} (h : QuA K C H a q tc ta to td ts ns) (hp : DiceAt H p) (k : Kt p H H') : QuA K C H' a q tc ta to td ts ns := by
  have no : ∀ {b : Addr} {o : HO}, H b = some o → (∀ xs, o ≠ .lst xs) → (∀ ps, o ≠ .tbl ps) → H' b = some o := fun e n t => kt_no k hp e n t
  exact ⟨h.ob.imp fun _ e => no e (fun _ z => by cases z) (fun _ z => by cases z), sqT_kt hp k h.tcs, h.cls.kt hp k, no h.tas (fun _ z => by cases z) tup_t, no h.tos (fun _ z => by cases z) tup_t, h.col, no h.tds (fun _ z => by cases z) dK_t⟩
theorem QuZ.kt {K : PySem.W.Frag} {C : Addr} {H H' : Hp} {p a : Addr} {q : PQ} (h : QuZ K C H a q) (hp : DiceAt H p) (k : Kt p H H') : QuZ K C H' a q := by
  obtain ⟨tc, ta, to, td, ts, ns, U, o, e, d⟩ := h
  exact ⟨tc, ta, to, td, ts, ns, U.kt hp k, o, kt_no k hp e (fun _ z => by cases z) (fun _ z => by cases z), d⟩
theorem QuO.kt {K : PySem.W.Frag} {C : Addr} {H H' : Hp} {p a : Addr} {q : PQ} (h : QuO K C H a q) (hp : DiceAt H p) (k : Kt p H H') : QuO K C H' a q := by
  obtain ⟨tc, ta, to, td, ts, ns, U⟩ := h
  exact ⟨tc, ta, to, td, ts, ns, U.kt hp k⟩
/-- plain questions, or the words for errors, compared -/
def rNeW : R2 := fun x y H Q => (∃ z : Str, x = .str z ∧ y = .str z ∧ Q (.bl false) H) ∨ rNeP x y H Q
def rEqW : R2 := fun x y H Q => (∃ z : Str, x = .str z ∧ y = .str z ∧ Q (.bl true) H) ∨ rEqP x y H Q
theorem op_neW {X : Cx} (hu : X.A.units + 66 < cLine) : OpR X (compareOp .NotEq) rNeW := by
  intro pins s σ H x y v u Q I rx ry h
  rcases h with ⟨z, rfl, rfl, k⟩ | h
  · exact op_ne pins s σ H _ _ v u Q I rx ry ⟨rfl, by rw [decide_eq_true rfl]; exact k⟩
  · exact op_neP hu pins s σ H _ _ v u Q I rx ry h
theorem op_eqW {X : Cx} (hu : X.A.units + 66 < cLine) : OpR X (compareOp .Eq) rEqW := by
  intro pins s σ H x y v u Q I rx ry h
  rcases h with ⟨z, rfl, rfl, k⟩ | h
  · exact op_eq pins s σ H _ _ v u Q I rx ry ⟨rfl, by rw [decide_eq_true rfl]; exact k⟩
  · exact op_eqP hu pins s σ H _ _ v u Q I rx ry h
end K0
namespace K0
open PySem L2 NS RZ
/-! ### what comes of a call: a plain question or a word -/
def eN : XK := fun _ _ _ => False
structure Getter (P : Program) (w : World) (K : PySem.W.Frag) (mg : Str → Option Value) (base : Heap) (C : Addr) (n : Nat) (f : Str) (sp : Sp) : Prop where
  ex : ∃ p g fd, PropOf K C f p g ∧ FnOk P w K mg base CX0 n g fd ["self"] sp ∧ Binds K fd ["self"] []
section
variable {X : Cx} {C : Addr} {e : Expr} {ta : TE} {pos : Pos} {n : Nat} {f : Str} {sp : Sp}
theorem pe_gtr (Z : Getter X.prog X.w X.K X.mg X.base C n f sp) (c : L2.Cls X.K C) (hr : Room (n + 1) X.A) (he : PE X e ta) (hab : attributeBase e f X.env (eval e X.env) = eval e X.env := by rfl) : PE X (.Attribute e f pos) (tProp C sp [] eN ta) := by
  obtain ⟨p, g, fd, hp, F, b⟩ := Z.ex
  exact pe_prop he c hp F hr b .nil pass0 hab
end
abbrev sAsked : Stmt := top 49
abbrev nAsked : List Str := ["_law_call", "_law_found"]
theorem scAsked : FnScope nAsked ["_law_call"] (defScope sAsked) := ⟨rfl, rfl, rfl, by decide +kernel, rfl, by decide +kernel, by decide +kernel⟩
structure TAs (K : PySem.W.Frag) (mg : Str → Option Value) (CC CQ : Addr) : Prop where
  list : mg "list" = none
  gC : mg "InvalidClause" = some (.ref CC)
  gQ : mg "InvalidQuestion" = some (.ref CQ)
  cc : PySem.W.exmOne K (.ref CC) (.ref CC) = some true
  qc : PySem.W.exmOne K (.ref CQ) (.ref CC) = some false
  qq : PySem.W.exmOne K (.ref CQ) (.ref CQ) = some true
/-- what asked makes of an error -/
def wAsk (CC CQ : Addr) (Q : VK) : XK := fun cls _ H => (cls = .ref CC ∧ Q (.str "clause") H) ∨ (cls = .ref CQ ∧ Q (.str "question") H)
def rAsk (K : PySem.W.Frag) (C : Addr) (Q : VK) : VK := fun v H => ∃ (u : Addr) (q : PQ), v = .ref u ∧ QuO K C H u q ∧ ∀ d H', Same H H' → H d = none → PlA H' d q → Q (.ref d) H'
def TTask (K : PySem.W.Frag) (C CC CQ : Addr) : (XK → Hp → VK → Prop) → Hp → VK → Prop := fun tl H Q => tl (wAsk CC CQ Q) H (rAsk K C Q)
theorem pe_weak {X : Cx} {e : Expr} {t : TE} (h : PE X e t) : PE X e (fun σ H Q => ∃ R : VK, t σ H R ∧ ∀ v H', R v H' → Q v H') :=
  ⟨fun pins s σ H Q I ⟨R, h1, h2⟩ => wpAny_mono (h.run pins s σ H R I h1) (fun u s' ⟨v, H', J, rv, q⟩ => ⟨v, H', J, rv, h2 _ _ q⟩) fun e s' x => x⟩
theorem asked_gives {X : Cx} {g C CC CQ : Addr} {cdg : Value} {q : Str} (T : TAs X.K X.mg CC CQ) (cl : L2.Cls X.K C) (Zc : Getter X.prog X.w X.K X.mg X.base C 1 "clauses" (getSp C "_clauses")) (Za : Getter X.prog X.w X.K X.mg X.base C 1 "asked" (getSp C "_asked")) (hr : Room 3 X.A) :
    LamX.GivesTo X nAsked "_law_asked" (defScope sAsked) g cdg (defBody sAsked) "_law_call" q (TTask X.K C CC CQ) := by
  intro f c' s H Q tl act hc h
  have hr2 : Room 2 (cxOf C8.CX0 X.prog X.w X.K X.mg X.base nAsked "_law_asked" (defScope sAsked) g cdg X.A X.stack s H C8.E0).nox.A := hr.deeper _
  refine ⟨_, pss_cons (ps_tryC (X := (cxOf C8.CX0 X.prog X.w X.K X.mg X.base nAsked "_law_asked" (defScope sAsked) g cdg X.A X.stack s H C8.E0).nox)
      (tb := fun W D σ H => ∃ (Ech : XK) (R : VK), (∀ cls d σ' H', Ech cls d H' → W cls d σ' H') ∧ σ[0]? = some (some (.ref f)) ∧ H c' = some (LamX.CodeO c' q) ∧ tl Ech H R ∧ ∀ v H2, R v H2 → D.nx (σ.set 1 (some v)) H2)
      rfl rfl LamX.takes0 (fun W pn xe tk _ => ?_)
      (ClOk.plain ⟨rfl, by decide, .inl T.gC⟩ (fun a oe cls d pn hz hf => pss_one (ps_ret pe_str))
      (ClOk.plain ⟨rfl, by decide, .inl T.gQ⟩ (fun a oe cls d pn hz hf => pss_one (ps_ret pe_str)) .nil)))
    (pss_one (ps_ret (pe_disp (pps_cons pe_str (pe_callTy call_list_of (by rfl) T.list (by decide +kernel) (pa_cons (pe_gtr Zc cl hr2 (pv 1)) pa_nil))
        (pps_cons pe_str (pe_callTy call_list_of (by rfl) T.list (by decide +kernel) (pa_cons (pe_gtr Za cl hr2 (pv 1)) pa_nil)) pps_nil)) rfl rfl (by decide) (by decide)))), ?_⟩
  · refine ⟨fun pins s' σ H' D I h' => ?_⟩
    obtain ⟨Ech, R, hW, h1, h2, h3, h4⟩ := h'
    have hp := fun p1 p2 => pe_weak (act W pn xe Ech p1 p2 tk hW)
    exact (pss_one (ps_set (i := 1) scAsked.nd rfl (Or.inl rfl) (hp _ _))).run pins s' σ H' D I ⟨R, ⟨h1, h2, h3⟩, h4⟩
  · refine ⟨wAsk CC CQ Q, rAsk X.K C Q, fun cls d σ' H' hw => ?_, rfl, hc, h, fun v H1 r => ?_⟩
    · rcases hw with ⟨rfl, k⟩ | ⟨rfl, k⟩
      · exact ⟨true, T.cc, fun _ a _ => k, fun z => (by cases z)⟩
      · exact ⟨false, T.qc, fun z => (by cases z), fun _ => ⟨true, T.qq, fun _ a _ => k, fun z => (by cases z)⟩⟩
    · obtain ⟨p, q, rfl, ⟨tc, ta, to, td, ts, ns, U⟩, k⟩ := r
      intro d hd
      have s2 := K0.Same.new (.dK []) hd
      have U2 := U.same s2
      obtain ⟨dx, ep⟩ := U2.ob
      refine ⟨_, rfl, p, dx, _, rfl, ep, p, dx, _, _, rfl, ep, qFs_clauses _ _ _ _, tc, _, rfl, .inr U2.tcs, fun l hl => ?_⟩
      have s3 := K0.Same.new (.lst (ts.map V.ref)) hl
      have U3 := U2.same s3
      have ep3 := s3 _ _ ep
      refine ⟨_, rfl, p, dx, _, rfl, ep3, p, dx, _, _, rfl, ep3, qFs_asked _ _ _ _, ta, _, rfl, .inr (SqT.of U3.tas), fun la hla => ?_⟩
      have s4 := K0.Same.new (.lst (q.asked.map V.str)) hla
      have ed : upd (upd H1 d (.dK [])) l (.lst (ts.map V.ref)) d = some (.dK []) := s3 _ _ upd_same
      have nld : l ≠ d := fun z => by rw [z, upd_same] at hl; cases hl
      have nlad : la ≠ d := fun z => by rw [z, ed] at hla; cases hla
      have nlal : la ≠ l := fun z => by rw [z, upd_same] at hla; cases hla
      refine ⟨s4 _ _ ed, [(Sum.inr "clauses", .ref l), (Sum.inr "asked", .ref la)], rfl, by show 2 ≤ 15; decide, ?_⟩
      have em : mergeK [] [((Sum.inr "clauses" : Key), V.ref l), (Sum.inr "asked", .ref la)] = [((Sum.inr "clauses" : Key), V.ref l), (Sum.inr "asked", .ref la)] := rfl
      rw [em]
      refine k d _ (fun b o e => ?_) hd ⟨l, la, ts, upd_same, by rw [upd_ne nld, upd_ne (Ne.symm nlal)]; exact upd_same, ((U3.cls).same s4).off fun ys z => ?_, by rw [upd_ne nlad]; exact upd_same⟩
      · rw [upd_ne (ne_of_none e hd)]
        exact s4 _ _ (s3 _ _ (s2 _ _ e))
      · rw [s4 _ _ ed] at z
        cases z
end K0

/-! ## Y20 -/
set_option maxRecDepth 100000
set_option maxHeartbeats 8000000
namespace K0
open PySem L2 NS RZ
/-! ### clauses put in and taken out -/
theorem names16_ok : ∀ k ∈ names16, nameS k = true := by decide +kernel
theorem tabs8_ok : ∀ k ∈ tabs8, nameS k = true ∧ k ≠ "other" := by decide +kernel
theorem GoodP.wf {q : PQ} (g : GoodP q) : WfQ q where
  c := {
    some_ := g.cls.some_
    few := Nat.le_trans g.cls.few (by decide)
    tab := fun c hc => (tabs8_ok c.1 (g.cls.tab c hc)).1
    nam := fun c hc k hk => by
      obtain ⟨pool, _, p2, p3⟩ := g.cls.cols
      exact names16_ok k (p2 k (p3 c hc k hk))
    wide := fun c hc => g.cls.wide c hc
    up := g.up
    same := g.cls.same
    cols := by
      obtain ⟨pool, p1, _, p3⟩ := g.cls.cols
      exact ⟨pool, p1, p3⟩ }
  nd := g.nd
  ask := g.ask
theorem mem_refs {H : Hp} {ts : List Addr} {cs : List CL} (h : Cls H ts cs) {v : V} (hv : v ∈ ts.map V.ref) : ∃ t c, v = .ref t ∧ ClA H t c ∧ c ∈ cs := by
  obtain ⟨t, ht, rfl⟩ := List.mem_map.mp hv
  obtain ⟨i, hi, rfl⟩ := List.getElem_of_mem ht
  obtain ⟨c, e, hA⟩ := h.at_ i hi
  exact ⟨_, c, rfl, hA, List.mem_of_getElem? e⟩
theorem tabs_kt {T : List (Addr × Str)} {H H' : Hp} {p : Addr} (t : LamX.Tabs T H) (d : DiceAt H p) (k : Kd p H H') : LamX.Tabs T H' := tabs_kd t d k
theorem kds {p : Addr} {H H' : Hp} (s : Same H H') : Kt p H H' := Kt.of (Kd.of s)
theorem cls_pick {H : Hp} {ts : List Addr} {cs : List CL} (hc : Cls H ts cs) : ∀ (I : List Nat), (∀ i ∈ I, i < cs.length) → Cls H (I.map fun i => ts.getD i 0) (I.map fun i => cs.getD i ("", []))
  | [], _ => .nil
  | i :: I, h => by
    have hi := h i List.mem_cons_self
    have hi' : i < ts.length := by rw [hc.len]; exact hi
    obtain ⟨c, e, hA⟩ := hc.at_ i hi'
    have e1 : ts.getD i 0 = ts[i] := by simp [List.getD, hi']
    have e2 : cs.getD i ("", []) = c := by simp [List.getD, e]
    refine .cons ?_ (cls_pick hc I fun j hj => h j (List.mem_cons_of_mem _ hj))
    show ClA H (ts.getD i 0) (cs.getD i ("", []))
    rw [e1, e2]
    exact hA
/-- the clauses but c -/
theorem but_mem {cs : List CL} {c : CL} (e : CL) : e ∈ (((List.range cs.length).filter fun i => !decide (cs.getD i ("", []) = c)).map fun i => cs.getD i ("", [])) ↔ e ∈ cs ∧ e ≠ c := by
  constructor
  · intro h
    obtain ⟨i, hi, rfl⟩ := List.mem_map.mp h
    obtain ⟨h1, h2⟩ := List.mem_filter.mp hi
    have h1 := List.mem_range.mp h1
    refine ⟨getD_mem h1, fun z => ?_⟩
    rw [decide_eq_true z] at h2
    cases h2
  · rintro ⟨h1, h2⟩
    obtain ⟨i, hi, rfl⟩ := List.getElem_of_mem h1
    have e2 : cs.getD i ("", []) = cs[i] := by simp [List.getD, hi]
    refine List.mem_map.mpr ⟨i, List.mem_filter.mpr ⟨List.mem_range.mpr hi, ?_⟩, e2⟩
    rw [e2, decide_eq_false h2]
    rfl
/-- a plain question's parts -/
def PlB (H : Hp) (d lc la : Addr) (ts : List Addr) (q : PQ) : Prop := H d = some (.dK [(.inr "clauses", .ref lc), (.inr "asked", .ref la)]) ∧ H lc = some (.lst (ts.map V.ref)) ∧ Cls H ts q.cls ∧ H la = some (.lst (q.asked.map V.str))
theorem PlB.kt {H H' : Hp} {d lc la p : Addr} {ts : List Addr} {q : PQ} (h : PlB H d lc la ts q) (hp : DiceAt H p) (k : Kt p H H') : PlB H' d lc la ts q := by
  obtain ⟨h1, h2, h3, h4⟩ := h
  exact ⟨kt_no k hp h1 (fun _ z => by cases z) dK_t, lstR_kt hp k h2, h3.kt hp k, lstS_kt hp k h4⟩
theorem PlB.same {H H' : Hp} {d lc la : Addr} {ts : List Addr} {q : PQ} (h : PlB H d lc la ts q) (s : Same H H') : PlB H' d lc la ts q := by
  obtain ⟨h1, h2, h3, h4⟩ := h
  exact ⟨s _ _ h1, s _ _ h2, h3.same s, s _ _ h4⟩
abbrev sCr : Stmt := top 52
abbrev nCr : List Str := ["_law_dice_here", "_law_plain", "_law_question_here", "_law_other", "_law_clause", "_law_due", "_law_kept", "_law_left", "_law_one", "_law_column"]
theorem scCr : FnScope nCr ["_law_dice_here", "_law_plain", "_law_question_here"] (defScope sCr) := ⟨rfl, rfl, rfl, by decide +kernel, rfl, by decide +kernel, by decide +kernel⟩
/-- every call answers True and leaves all but the dice and the tables -/
def spRight3 (K : PySem.W.Frag) (C : Addr) (T : List (Addr × Str)) : Sp := fun vs H Q _ => ∃ (p d u : Addr) (q : PQ), vs = [.ref p, .ref d, .ref u] ∧ DiceAt H p ∧ LamX.Tabs T H ∧ PlA H d q ∧ GoodP q ∧ QuZ K C H u q ∧
  ∀ H', Kt p H H' → DiceAt H' p → LamX.Tabs T H' → Q (.bl true) H'
def SlR (p d u t : Addr) (v5 : V) (σ : L2.St) : Prop := ∃ a3 a6 a7 a8 a9 : Option V, σ = [some (.ref p), some (.ref d), some (.ref u), a3, some (.ref t), some v5, a6, a7, a8, a9]
structure LR (P : Program) (w : World) (K : PySem.W.Frag) (mg : Str → Option Value) (base : Heap) (fA fP fK fC fS : Addr) (fdA fdP fdK fdC fdS : FuncData) : Prop where
  eA : Gl K mg "_law_any" fA
  GA : FnOk P w K mg base CX0 5 fA fdA ["_law_dice_here", "_law_most"] spAny
  bA : Binds K fdA ["_law_dice_here", "_law_most"] []
  eP : Gl K mg "_law_pick" fP
  GP : FnOk P w K mg base CX0 2 fP fdP ["_law_dice_here", "_law_items"] spPick
  bP : Binds K fdP ["_law_dice_here", "_law_items"] []
  eK : Gl K mg "_law_checked" fK
  GK : FnOk P w K mg base CX0 2 fK fdK ["_law_clauses", "_law_asked_here"] spChk
  bK : Binds K fdK ["_law_clauses", "_law_asked_here"] []
  eC : Gl K mg "_law_columns" fC
  GC : FnOk P w K mg base CX0 1 fC fdC ["_law_plain"] spCols2
  bC : Binds K fdC ["_law_plain"] []
  eS : Gl K mg "_law_asked" fS
  FS : Fun K "_law_asked" "_law_asked" sAsked fS fdS
  bS : Binds K fdS ["_law_call"] []
section
variable {P : Program} {w : World} {K : PySem.W.Frag} {mg : Str → Option Value} {base : Heap} {C CC CQ fA fP fK fC fS : Addr} {fdA fdP fdK fdC fdS : FuncData} {T : List (Addr × Str)}
theorem ok_cr {f c PT : Addr} {fd : FuncData} (F : FunC K "_law_clauses_right" "_law_clauses_right" sCr f fd c) (L : LR P w K mg base fA fP fK fC fS fdA fdP fdK fdC fdS) (J : TAs K mg CC CQ) (TQ0 : TQu K C)
    (Zc0 : Getter P w K mg base C 1 "clauses" (getSp C "_clauses")) (Za : Getter P w K mg base C 1 "asked" (getSp C "_asked"))
    (ZW : OwnM P w K mg base (L2.CX P w) C 7 "with_clause" "clause" (spWith K C CC CQ)) (ZO : OwnM P w K mg base (L2.CX P w) C 7 "without_clause" "clause" (spWithout K C CC CQ))
    (TB : LamX.TabB base mg c PT) (hT : ∀ q, (PT, q) ∈ T ↔ q = ("_law_clauses_right.<locals>.<lambda>" : Str)) : FnG P w K mg base CX0 10 f fd ["_law_dice_here", "_law_plain", "_law_question_here"] (spRight3 K C T) := by
  obtain ⟨oc, od, kV, doc, pm, an, cdv, ct, osl, rfl, lkM, hcM⟩ := L.FS.ex
  refine gfnC F scCr (fun vs H Q E h => ?_) (fun A outer s H vs Q E hr hgd h => ?_)
  · obtain ⟨p, d, u, q, rfl, _⟩ := h
    rfl
  · obtain ⟨p, d, u, q, rfl, hp, ht, pl, gq, qu, k⟩ := h
    have hr1 : Room 1 _ := hr.mono (by decide)
    have hr2 : Room 2 _ := hr.mono (by decide)
    have hr3 : Room 3 _ := hr.mono (by decide)
    have hr5 : Room 5 _ := hr.mono (by decide)
    have hu := hr.units
    have hu6 : (A.deeper (PyProof.Rows.envOfC "_law_clauses_right" (defScope sCr) s.heap.objs.size f (.ref c))).units + 66 < cLine := by
      have z := hr.un
      omega
    have hu5 : (A.deeper (PyProof.Rows.envOfC "_law_clauses_right" (defScope sCr) s.heap.objs.size f (.ref c))).units + 65 < cLine := by omega
    refine ⟨_, PSs.nox (pss_cons (ps_set (i := 3) scCr.nd rfl (Or.inl rfl) (pe_call L.GA hr5 (by rfl) L.eA.g L.eA.k L.bA .nil pass0 (pa_cons (pv 0) (pa_cons pe_int pa_nil))))
      (pss_cons (ps_set (i := 4) scCr.nd rfl (Or.inr rfl) (pe_call L.GP hr2 (by rfl) L.eP.g L.eP.k L.bP .nil pass0 (pa_cons (pv 0) (pa_cons (pe_op op_cat (pe_dget (lt1 hu) (pv 3) pe_str (fun _ _ => rfl)) (pe_dget (lt1 hu) (pv 1) pe_str (fun _ _ => rfl))) pa_nil))))
      (pss_cons (ps_set (i := 5) scCr.nd rfl (Or.inl rfl) pe_str)
      (C8.pss_cut (ps_if (pt_cmpR (op_notInD hu5) (pv 4) (pe_dget (lt1 hu) (pv 1) pe_str (fun _ _ => rfl)) rfl)
          (pss_one (ps_set (i := 5) scCr.nd rfl (Or.inl rfl) (pe_call L.GK hr2 (by rfl) L.eK.g L.eK.k L.bK .nil pass0 (pa_cons (pe_op op_cat (pe_dget (lt1 hu) (pv 1) pe_str (fun _ _ => rfl)) (pe_lst (pa_cons (pv 4) pa_nil))) (pa_cons (pe_dget (lt1 hu) (pv 1) pe_str (fun _ _ => rfl)) pa_nil))))) pss_nil)
      (C8.pss_cut (ps_if (pt_cmpR (op_neW hu6) (LamX.pe_lamcall (T := T) (k := 7) (t := fun E => tMeth C "with_clause" (spWith K C CC CQ) [] E (tVar 2) (tCons (tVar 4) tNil)) (by rfl) L.eS.g L.eS.k lkM hcM L.bS scAsked rfl (Or.inl rfl) (asked_gives J TQ0.cl Zc0 Za hr3) TB rfl ((hT _).mpr rfl) (fun q hq e => (hT _).mp (by rw [← e]; exact hq)) hr (LamX.lamS_by (by show LamX.lamSB (defScope sCr) _ = true; decide +kernel)) rfl (fun _ _ _ _ _ => rfl)
          (by exact fun A2 o2 s2 H2 E2 f2 c2 hr4 => pe_ownM ZW TQ0.cl hr4 (passes_call (takes_of rfl rfl rfl rfl) (fun _ _ _ _ h => h)) (pv 2) (pa_cons (pv 4) pa_nil))) (pv 5) (nomark _)) (pss_one (ps_ret pe_bl)) pss_nil)
      (pss_cons (ps_set (i := 5) scCr.nd rfl (Or.inl rfl) pe_str)
      (C8.pss_cut (ps_if (pt_cmpR (op_inD hu5) (pv 4) (pe_dget (lt1 hu) (pv 1) pe_str (fun _ _ => rfl)) rfl)
          (C8.pss_cut (ps_setLc (i := 6) (own := [("_law_one", 8)]) (g := gName 8) (tt := tTest (tOp (rNeD K) (tVar 8) (tVar 4))) (te := tVar 8) (by rfl) scCr.nd rfl rfl (sw_true rfl rfl rfl (by decide +kernel))
              (pi_list (pe_dget (lt1 hu) (pv 1) pe_str (fun _ _ => rfl))) (blkOk_by (own := [("_law_one", 8)]) (N := nCr) (sc := defScope sCr) (by decide +kernel)) (fun _ _ _ _ _ => pg_name (i := 8) scCr.nd rfl (Or.inl rfl))
              (fun _ _ _ _ _ => pts_one (pt_cmpR (op_neD hu) (pv 8) (pv 4) (nomark _))) (fun _ _ _ _ _ => pv 8))
          (pss_cons (ps_set (i := 7) scCr.nd rfl (Or.inr rfl) (pe_call L.GC hr1 (by rfl) L.eC.g L.eC.k L.bC .nil pass0 (pa_cons (pe_disp (pps_cons pe_str (pv 6) (pps_cons pe_str (pe_lst pa_nil) pps_nil)) rfl rfl (by decide) (by decide)) pa_nil)))
          (pss_one (ps_set (i := 5) scCr.nd rfl (Or.inl rfl) (pe_call L.GK hr2 (by rfl) L.eK.g L.eK.k L.bK .nil pass0 (pa_cons (pv 6) (pa_cons
            (pe_lc (own := [("_law_column", 9)]) (g := gName 9) (tt := tTest (tOp (rIn K false) (tVar 9) (tVar 7))) (te := tVar 9) rfl scCr.nd (pi_list (pe_dget (lt1 hu) (pv 1) pe_str (fun _ _ => rfl))) (blkOk_by (own := [("_law_column", 9)]) (N := nCr) (sc := defScope sCr) (by decide +kernel))
              (fun _ _ _ _ _ => pg_name (i := 9) scCr.nd rfl (Or.inl rfl)) (fun _ _ _ _ _ => pts_one (pt_cmpR (r := rIn K false) op_in_seq (pv 9) (pv 7) rfl)) (fun _ _ _ _ _ => pv 9)) pa_nil))))))) pss_nil)
      (pss_one (ps_ret (pe_cmpR (op_eqW hu6) (LamX.pe_lamcall (T := T) (k := 7) (t := fun E => tMeth C "without_clause" (spWithout K C CC CQ) [] E (tVar 2) (tCons (tVar 4) tNil)) (by rfl) L.eS.g L.eS.k lkM hcM L.bS scAsked rfl (Or.inl rfl) (asked_gives J TQ0.cl Zc0 Za hr3) TB rfl ((hT _).mpr rfl) (fun q hq e => (hT _).mp (by rw [← e]; exact hq)) hr (LamX.lamS_by (by show LamX.lamSB (defScope sCr) _ = true; decide +kernel)) rfl (fun _ _ _ _ _ => rfl)
          (by exact fun A2 o2 s2 H2 E2 f2 c2 hr4 => pe_ownM ZO TQ0.cl hr4 (passes_call (takes_of rfl rfl rfl rfl) (fun _ _ _ _ h => h)) (pv 2) (pa_cons (pv 4) pa_nil))) (pv 5) (nomark _))))))))))), ?_⟩
    have g := gq.wf
    obtain ⟨lc, la, ts, B⟩ := id pl
    have B : PlB H d lc la ts q := B
    have q8 := g.c.few
    obtain ⟨pool, pl8, plm⟩ := g.c.cols
    refine ⟨_, rfl, p, 4, rfl, hp, by decide, by decide, fun q1 H1 d1 g1 k1 dc1 hd1 pl1 => ?_⟩
    obtain ⟨lc1, la1, ts1, a1, a2, a3, a4⟩ := id pl1
    have B1 := B.kt hp (Kt.of k1)
    have lt : ts.length = q.cls.length := B.2.2.1.len
    have lt1 : ts1.length = q1.cls.length := a3.len
    have q18 := g1.wf.c.few
    have q1p : 0 < q1.cls.length := List.length_pos_iff.mpr g1.wf.c.some_
    refine ⟨_, rfl, _, rfl, d1, V.ref lc1, rfl, DGet.k (k := Sum.inr "clauses") a1, _, rfl, d, V.ref lc, rfl, DGet.k (k := Sum.inr "clauses") B1.1, lc1, lc, ts1.map V.ref, ts.map V.ref, rfl, rfl, a2, B1.2.1, ?_, fun l hl => ?_⟩
    · rw [List.length_map, List.length_map, sizeLine_eq]; omega
    have s12 := K0.Same.new (.lst (ts1.map V.ref ++ ts.map V.ref)) hl
    refine ⟨p, l, _, rfl, dc1.on s12, dc1.off hl, upd_same, ?_, ?_, fun v H2 hv k2 dc2 => ?_⟩
    · rw [List.length_append, List.length_map, List.length_map]; omega
    · rw [List.length_append, List.length_map, List.length_map]; omega
    obtain ⟨t, c, rfl, hA1, hc⟩ : ∃ t c, v = .ref t ∧ ClA (upd H1 l (.lst (ts1.map V.ref ++ ts.map V.ref))) t c ∧ c ∈ q1.cls ++ q.cls := by
      rcases List.mem_append.mp hv with h | h
      · obtain ⟨t, c, e, hA, hc⟩ := mem_refs a3 h
        exact ⟨t, c, e, hA.same s12, List.mem_append_left _ hc⟩
      · obtain ⟨t, c, e, hA, hc⟩ := mem_refs B1.2.2.1 h
        exact ⟨t, c, e, hA.same s12, List.mem_append_right _ hc⟩
    have hA := hA1.kt (dc1.on s12) (Kt.of k2)
    have gc : GoodC c := (List.mem_append.mp hc).elim (fun h => g1.wf.clause h) (fun h => g.clause h)
    have kt2 : Kt p H H2 := (Kt.of k1).tr ((kds s12).tr (Kt.of k2))
    have tb2 : LamX.Tabs T H2 := tabs_kd (tabs_same (tabs_kd ht hp k1) s12) (dc1.on s12) k2
    have shC := dC_shaped (nameS_ok gc.tab) (fun k hk => nameS_ok (gc.nam k hk))
    have shQ := dCs_shapedL g.c.lay
    have B2 := B.kt hp kt2
    clear a1 a2 a3 a4 B1 s12 hA1 hc k1 k2 dc1 hv hl pl1
    refine ⟨fun σ H' => ∃ v, SlR p d u t v σ ∧ Kt p H H' ∧ DiceAt H' p ∧ LamX.Tabs T H' ∧ ClA H' t c ∧ ((c ∈ q.cls ∧ v = .str "clause") ∨ (c ∉ q.cls ∧ ∃ cs', Srt cs' (q.cls ++ [c]) ∧ ChkV H' v ⟨cs', q.asked⟩)), ?_, ?_⟩
    · refine ⟨_, rfl, _, rfl, d, V.ref lc, rfl, DGet.k (k := Sum.inr "clauses") B2.1, dC c, q.cls.map dC, hA.dp, .lst (SqL.of B2.2.1) B2.2.2.1.dp, shC, shQ, ?_⟩
      rw [any_dC]
      refine ⟨_, rfl, if_both (fun c1 => ?_) (fun c1 => ?_)⟩
      · have nin : c ∉ q.cls := fun z => by rw [decide_eq_true z] at c1; cases c1
        refine ⟨_, rfl, d, V.ref lc, rfl, DGet.k (k := Sum.inr "clauses") B2.1, _, rfl, by show 1 ≤ sizeLine; decide, fun m hm => ?_⟩
        have s3 := K0.Same.new (.lst [.ref t]) hm
        refine ⟨lc, m, ts.map V.ref, [.ref t], rfl, rfl, s3 _ _ B2.2.1, upd_same, ?_, fun l2 hl2 => ?_⟩
        · rw [List.length_map, sizeLine_eq]
          simp only [List.length_cons, List.length_nil]
          omega
        have s4 := K0.Same.new (.lst (ts.map V.ref ++ [.ref t])) hl2
        have s34 := K0.Same.tr s3 s4
        have B4 := B2.same s34
        refine ⟨_, rfl, d, V.ref la, rfl, DGet.k (k := Sum.inr "asked") B4.1, l2, la, ts ++ [t], q.cls ++ [c], q.asked, pool ++ c.2, rfl, by rw [upd_same, List.map_append]; rfl, Cls.snoc (hA.same s34) B4.2.2.1, ?_, fun e he => ?_, ?_, fun e he k hk => ?_, B4.2.2.2, g.nd, fun k hk => ?_, g.nam, ?_, fun cs' H5 v s5 srt ck => ?_⟩
        · rw [List.length_append]
          simp only [List.length_cons, List.length_nil]
          omega
        · rcases List.mem_append.mp he with z | z
          · exact g.clause z
          · rw [List.mem_singleton.mp z]; exact gc
        · rw [List.length_append]
          have := gc.wide.2
          omega
        · rcases List.mem_append.mp he with z | z
          · exact List.mem_append_left _ (plm e z k hk)
          · rw [List.mem_singleton.mp z] at hk
            exact List.mem_append_right _ hk
        · obtain ⟨e, he, hk2⟩ := colsIn_mem.mp (g.ask k hk)
          exact colsIn_mem.mpr ⟨e, List.mem_append_left _ he, hk2⟩
        · have := g.few
          omega
        · have s35 := K0.Same.tr s34 s5
          exact ⟨v, ⟨_, _, _, _, _, rfl⟩, kt2.tr (kds s35), dc2.on s35, tabs_same tb2 s35, hA.same s35, .inr ⟨nin, cs', srt, ck⟩⟩
      · have yin : c ∈ q.cls := by
          cases z : decide (c ∈ q.cls) with
          | true => exact of_decide_eq_true z
          | false => rw [z] at c1; cases c1
        exact ⟨_, ⟨_, _, _, _, _, rfl⟩, kt2, dc2, tb2, hA, .inl ⟨yin, rfl⟩⟩
    clear B2 hA kt2 dc2 tb2
    rintro σ H3 ⟨v, ⟨x3, x6, x7, x8, x9, rfl⟩, kt3, dc3, tb3, hA3, due⟩
    refine ⟨fun σ H' => (∃ v, SlR p d u t v σ) ∧ Kt p H H' ∧ DiceAt H' p ∧ LamX.Tabs T H' ∧ ClA H' t c, ?_, ?_⟩
    · refine ⟨tb3, fun H4 e4 tb4 => ?_⟩
      have kt4 := kt3.tr (Kt.ex e4)
      have dc4 := dc3.ex e4
      have qu4 := qu.kt hp kt4
      have hA4 := hA3.kt dc3 (Kt.ex e4)
      obtain ⟨tc, ta, to, td, ts', ns', U⟩ := id qu4.o
      obtain ⟨dx, ep⟩ := U.ob
      have fin : ∀ (v : V) H5, Same H4 H5 → (∃ v', SlR p d u t v' [some (.ref p), some (.ref d), some (.ref u), x3, some (.ref t), some v, x6, x7, x8, x9]) ∧ Kt p H H5 ∧ DiceAt H5 p ∧ LamX.Tabs T H5 ∧ ClA H5 t c := fun v H5 s5 => ⟨⟨v, _, _, _, _, _, rfl⟩, kt4.tr (kds s5), dc4.on s5, tabs_same tb4 s5, hA4.same s5⟩
      refine ⟨_, rfl, u, dx, _, rfl, ep, qFs_no (by decide +kernel) (by decide +kernel) (by decide +kernel) (by decide +kernel), _, rfl, u, t, q, c, rfl, qu4.o, g, hA4, gc, fun c1 H5 s5 => .inl ⟨rfl, ?_⟩, fun c1 cs' srt => ⟨fun wf u' H5 s5 qo5 => ?_, fun no H5 s5 => .inr ⟨rfl, ?_⟩⟩⟩
      · rcases due with ⟨_, rfl⟩ | ⟨n, _⟩
        · exact ⟨_, rfl, .inl ⟨"clause", rfl, rfl, _, rfl, if_neg_of rfl (fin _ H5 s5)⟩⟩
        · exact absurd c1 n
      · rcases due with ⟨n, _⟩ | ⟨_, cs2, srt2, ck⟩
        · exact absurd n c1
        obtain rfl := srt.one srt2
        rcases ck with ⟨_, d', rfl, pl'⟩ | ⟨no, _⟩
        · exact ⟨u', _, rfl, qo5, fun d5 H6 s6 hd5 pl5 => ⟨_, rfl, .inr ⟨d5, d', _, rfl, rfl, pl5, (pl'.kt dc3 (Kt.ex e4)).same (K0.Same.tr s5 s6), wf, _, rfl, if_neg_of rfl (fin _ H6 (K0.Same.tr s5 s6))⟩⟩⟩
        · exact absurd wf no
      · rcases due with ⟨n, _⟩ | ⟨_, cs2, srt2, ck⟩
        · exact absurd n c1
        obtain rfl := srt.one srt2
        rcases ck with ⟨wf, _⟩ | ⟨_, rfl⟩
        · exact absurd wf no
        · exact ⟨_, rfl, .inl ⟨"question", rfl, rfl, _, rfl, if_neg_of rfl (fin _ H5 s5)⟩⟩
    clear due kt3 dc3 tb3 hA3
    rintro σ H5 ⟨⟨v5, ⟨y3, y6, y7, y8, y9, rfl⟩⟩, kt5, dc5, tb5, hA5⟩
    have B5 := B.kt hp kt5
    refine ⟨fun σ H' => ∃ v, SlR p d u t v σ ∧ Kt p H H' ∧ DiceAt H' p ∧ LamX.Tabs T H' ∧ ClA H' t c ∧ ((c ∉ q.cls ∧ v = .str "clause") ∨ ∃ j : Nat, q.cls[j]? = some c ∧ ChkV H' v ⟨less q.cls j, leftA q (less q.cls j)⟩), ?_, ?_⟩
    · refine ⟨_, rfl, _, rfl, d, V.ref lc, rfl, DGet.k (k := Sum.inr "clauses") B5.1, dC c, q.cls.map dC, hA5.dp, .lst (SqL.of B5.2.1) B5.2.2.1.dp, shC, shQ, ?_⟩
      rw [any_dC]
      refine ⟨_, rfl, if_both (fun c1 => ?_) (fun c1 => ⟨_, ⟨_, _, _, _, _, rfl⟩, kt5, dc5, tb5, hA5, .inl ⟨of_decide_eq_false c1, rfl⟩⟩)⟩
      have cin := of_decide_eq_true c1
      obtain ⟨j, hj⟩ := List.getElem?_of_mem cin
      refine ⟨fun σ H' => ∃ (kl : Addr) (ks : List Addr) (Lk : List CL), (∃ a3 a7 a8 a9 : Option V, σ = [some (.ref p), some (.ref d), some (.ref u), a3, some (.ref t), some (.str "clause"), some (.ref kl), a7, a8, a9]) ∧ Same H5 H' ∧ H' kl = some (.lst (ks.map V.ref)) ∧ Cls H' ks Lk ∧ Lk.length ≤ 8 ∧ ∀ e, e ∈ Lk ↔ e ∈ q.cls ∧ e ≠ c, ?_, ?_⟩
      · refine ⟨_, rfl, d, V.ref lc, rfl, DGet.k (k := Sum.inr "clauses") B5.1, lc, rfl, ⟨_, SqL.of B5.2.1⟩, fun D hD => lc_sieve (f := fun i => .ref (ts.getD i 0)) (keep := fun i => !decide (q.cls.getD i ("", []) = c)) (walk_list (K := K) (a := lc) (xs := ts.map V.ref)) (by rw [List.length_map, sizeLine_eq]; omega) hD (fun H6 s6 => SqL.of (s6 _ _ B5.2.1)) ?_ gName_mono ?_⟩
        · rintro i x H8 H9 hi s8 ⟨rfl, hx⟩
          rw [List.getElem?_map] at hx
          obtain ⟨t', ht', rfl⟩ := Option.map_eq_some_iff.mp hx
          obtain ⟨hti, et⟩ := List.getElem?_eq_some_iff.mp ht'
          obtain ⟨ci, hci, hAi⟩ := B5.2.2.1.at_ i hti
          rw [et] at hAi
          have ec : q.cls.getD i ("", []) = ci := by simp [List.getD, hci]
          have et2 : ts.getD i 0 = t' := by simp [List.getD, ht']
          have gi : GoodC ci := g.clause (List.mem_of_getElem? hci)
          rw [et2, ec]
          refine ⟨rfl, fun R r => ?_, fun _ Q' H10 s10 r => ⟨_, rfl, r H10 s10⟩⟩
          refine ⟨_, rfl, _, rfl, dC ci, dC c, (hAi.same s8).dp, (hA5.same s8).dp, dC_shaped (nameS_ok gi.tab) (fun k hk => nameS_ok (gi.nam k hk)), shC, _, rfl, ?_⟩
          rw [dC_eqv]
          exact r _ K0.Same.rfl'
        · intro H8 s8 hD8
          rw [List.length_map, lt] at hD8
          refine ⟨D, ((List.range q.cls.length).filter fun i => !decide (q.cls.getD i ("", []) = c)).map fun i => ts.getD i 0, _, ⟨_, _, _, _, rfl⟩, s8, ?_, cls_pick (B5.2.2.1.same s8) _ (fun i hi => List.mem_range.mp (List.mem_filter.mp hi).1), ?_, but_mem⟩
          · rw [hD8, List.map_map]
            rfl
          · rw [List.length_map]
            have z := List.length_filter_le (fun i => !decide (q.cls.getD i ("", []) = c)) (List.range q.cls.length)
            rw [List.length_range] at z
            omega
      rintro σ H6 ⟨kl, ks, Lk, ⟨z3, z7, z8, z9, rfl⟩, s6, ekl, clk, l8, lmem⟩
      have goods : ∀ e ∈ Lk, GoodC e := fun e he => g.clause ((lmem e).mp he).1
      have inpool : ∀ e ∈ Lk, ∀ k ∈ e.2, k ∈ pool := fun e he k hk => plm e ((lmem e).mp he).1 k hk
      intro dd hdd
      have s7 := K0.Same.new (.dK []) hdd
      refine ⟨_, rfl, by show 0 ≤ sizeLine; decide, fun l0 hl0 => ?_⟩
      have s8 := K0.Same.new (.lst []) hl0
      refine ⟨s8 _ _ upd_same, [(Sum.inr "clauses", .ref kl), (Sum.inr "asked", .ref l0)], rfl, by show 2 ≤ 15; decide, ?_⟩
      have em : mergeK [] [((Sum.inr "clauses" : Key), V.ref kl), (Sum.inr "asked", .ref l0)] = [((Sum.inr "clauses" : Key), V.ref kl), (Sum.inr "asked", .ref l0)] := rfl
      rw [em]
      have nld : l0 ≠ dd := fun z => by rw [z, upd_same] at hl0; cases hl0
      have s9 : Same H6 (upd (upd (upd H6 dd (.dK [])) l0 (.lst [])) dd (.dK [((Sum.inr "clauses" : Key), V.ref kl), (Sum.inr "asked", .ref l0)])) := fun b o e => by
        rw [upd_ne (ne_of_none e hdd)]
        exact s8 _ _ (s7 _ _ e)
      have pl9 : PlA (upd (upd (upd H6 dd (.dK [])) l0 (.lst [])) dd (.dK [((Sum.inr "clauses" : Key), V.ref kl), (Sum.inr "asked", .ref l0)])) dd ⟨Lk, []⟩ := ⟨kl, l0, ks, upd_same, s9 _ _ ekl, clk.same s9, by rw [upd_ne nld]; exact upd_same⟩
      generalize upd (upd (upd H6 dd (.dK [])) l0 (.lst [])) dd (.dK [((Sum.inr "clauses" : Key), V.ref kl), (Sum.inr "asked", .ref l0)]) = H9 at *
      refine ⟨dd, ⟨Lk, []⟩, rfl, pl9, ⟨by show Lk.length ≤ 16; omega, fun e he => (goods e he).wide.2, pool, by omega, fun k hk => ?_⟩, fun ns l H10 ic s10 hl10 el10 => ?_⟩
      · obtain ⟨e, he, h2⟩ := colsIn_mem.mp hk
        exact inpool e he k h2
      have s510 := K0.Same.tr s6 (K0.Same.tr s9 s10)
      have B10 := B5.same s510
      have ekl10 := s10 _ _ (s9 _ _ ekl)
      have clk10 := (clk.same s9).same s10
      have nd := pair_nodup g.c.up
      have lm := less_mem nd hj
      have srtL : Srt (less q.cls j) Lk := ⟨less_up g.c.up j, fun e => (lm e).trans (lmem e).symm⟩
      have colsL : ∀ k, k ∈ colsIn (less q.cls j) ↔ k ∈ colsIn Lk := fun k => by
        rw [colsIn_mem, colsIn_mem]
        exact ⟨fun ⟨e, he, h⟩ => ⟨e, (srtL.mem e).mp he, h⟩, fun ⟨e, he, h⟩ => ⟨e, (srtL.mem e).mpr he, h⟩⟩
      refine ⟨_, rfl, _, rfl, d, V.ref la, rfl, DGet.k (k := Sum.inr "asked") B10.1, la, rfl, ⟨_, SqL.of B10.2.2.2⟩, fun D hD => lc_sieve (walk_list (K := K) (a := la) (xs := q.asked.map V.str)) (fun i => decide (q.asked.getD i Str.empty ∈ colsIn (less q.cls j))) (fun i => V.str (q.asked.getD i Str.empty)) (by have := g.few; rw [List.length_map, sizeLine_eq]; omega) hD (fun H6 s6 => SqL.of (s6 _ _ B10.2.2.2)) ?_ gName_mono ?_⟩
      · rintro i y H6 H7 hi s6 ⟨rfl, hyi⟩
        rw [List.getElem?_map] at hyi
        obtain ⟨z, hz, rfl⟩ := Option.map_eq_some_iff.mp hyi
        have ez : q.asked.getD i Str.empty = z := by simp [List.getD, hz]
        rw [ez]
        refine ⟨rfl, fun Q' hq => ?_, fun _ Q' H8 s8 hq => ⟨_, rfl, hq H8 s8⟩⟩
        refine ⟨_, rfl, _, rfl, l, _, rfl, .inl (SqL.of (s6 _ _ el10)), rfl, flat_strs ns, _, rfl, ?_⟩
        rw [if_neg Bool.false_ne_true, inV_strs]
        have e : decide (z ∈ ns) = decide (z ∈ colsIn (less q.cls j)) := decide_eq_decide.mpr ((ic.2.2 z).trans (colsL z).symm)
        rw [e]
        exact hq _ K0.Same.rfl'
      intro H11 s11 hD11
      have eA : ((List.range (q.asked.map V.str).length).filter fun i => decide (q.asked.getD i Str.empty ∈ colsIn (less q.cls j))).map (fun i => V.str (q.asked.getD i Str.empty)) = (leftA q (less q.cls j)).map V.str := by
        unfold leftA
        rw [List.length_map, ← sieve_filter (fun k => decide (k ∈ colsIn (less q.cls j))) q.asked, List.map_map]
        rfl
      rw [eA] at hD11
      have s511 := K0.Same.tr s510 s11
      have lA : ∀ k ∈ leftA q (less q.cls j), k ∈ q.asked ∧ k ∈ colsIn (less q.cls j) := fun k hk => by
        obtain ⟨h1, h2⟩ := List.mem_filter.mp hk
        exact ⟨h1, of_decide_eq_true h2⟩
      refine ⟨kl, D, ks, Lk, leftA q (less q.cls j), pool, rfl, s11 _ _ ekl10, clk10.same s11, by omega, goods, by omega, inpool, hD11, g.nd.sublist List.filter_sublist, fun k hk => (colsL k).mp (lA k hk).2, fun k hk => g.nam k (lA k hk).1, ?_, fun cs' H12 v s12 srt ck => ?_⟩
      · have z : (leftA q (less q.cls j)).length ≤ _ := List.length_filter_le _ _
        have := g.few
        omega
      · obtain rfl := srt.one srtL
        have sA := K0.Same.tr s511 s12
        exact ⟨v, ⟨_, _, _, _, _, rfl⟩, kt5.tr (kds sA), dc5.on sA, tabs_same tb5 sA, hA5.same sA, .inr ⟨j, hj, ck⟩⟩
    clear B5 kt5 dc5 tb5 hA5
    rintro σ H7 ⟨v, ⟨x3, x6, x7, x8, x9, rfl⟩, kt7, dc7, tb7, hA7, due⟩
    refine ⟨tb7, fun H8 e8 tb8 => ?_⟩
    have kt8 := kt7.tr (Kt.ex e8)
    have dc8 := dc7.ex e8
    have qu8 := qu.kt hp kt8
    have hA8 := hA7.kt dc7 (Kt.ex e8)
    obtain ⟨tc, ta, to, td, ts', ns', U⟩ := id qu8.o
    obtain ⟨dx, ep⟩ := U.ob
    have fin : ∀ H5, Same H8 H5 → Q (.bl true) H5 := fun H5 s5 => k H5 (kt8.tr (kds s5)) (dc8.on s5) (tabs_same tb8 s5)
    refine ⟨_, rfl, u, dx, _, rfl, ep, qFs_no (by decide +kernel) (by decide +kernel) (by decide +kernel) (by decide +kernel), _, rfl, u, t, q, c, rfl, qu8, g, hA8, gc, fun c1 => .inl ⟨rfl, ?_⟩, fun j hj => ⟨fun wf u' H5 s5 qo5 => ?_, fun no H5 s5 => .inr ⟨rfl, ?_⟩⟩⟩
    · rcases due with ⟨_, rfl⟩ | ⟨j, hj, _⟩
      · exact ⟨_, rfl, .inl ⟨"clause", rfl, rfl, fin _ K0.Same.rfl'⟩⟩
      · exact absurd (List.mem_of_getElem? hj) c1
    · rcases due with ⟨n, _⟩ | ⟨j', hj', ck⟩
      · exact absurd (List.mem_of_getElem? hj) n
      obtain rfl := up_nodup g.c.up hj hj'
      rcases ck with ⟨_, d', rfl, pl'⟩ | ⟨no, _⟩
      · exact ⟨u', _, rfl, qo5, fun d5 H6 s6 hd5 pl5 => ⟨_, rfl, .inr ⟨d5, d', _, rfl, rfl, pl5, (pl'.kt dc7 (Kt.ex e8)).same (K0.Same.tr s5 s6), wf, fin H6 (K0.Same.tr s5 s6)⟩⟩⟩
      · exact absurd wf no
    · rcases due with ⟨n, _⟩ | ⟨j', hj', ck⟩
      · exact absurd (List.mem_of_getElem? hj) n
      obtain rfl := up_nodup g.c.up hj hj'
      rcases ck with ⟨wf, _⟩ | ⟨_, rfl⟩
      · exact absurd wf no
      · exact ⟨_, rfl, .inl ⟨"question", rfl, rfl, fin H5 s5⟩⟩
end
end K0

/-! ## Z1 -/
set_option maxRecDepth 100000
set_option maxHeartbeats 4000000
namespace K0
open PySem PySem.Spec PyProof.Rows L2
/-! ### list(zip(a list, a list)) -/
structure ZMade (xs ys : Array Value) (lo : Addr) (h : Heap) (as : List Addr) : Prop where
  rise : as.Pairwise (· < ·)
  above : ∀ a ∈ as, lo < a
  pairs : ∀ (j : Nat) (a : Addr), as[j]? = some a → ∃ x y, xs[j]? = some x ∧ ys[j]? = some y ∧ IsPair h a x y
theorem ZMade.there {xs ys : Array Value} {lo : Addr} {h : Heap} {as : List Addr} (g : ZMade xs ys lo h as) {a : Addr} (ha : a ∈ as) : a < h.objs.size := by
  obtain ⟨j, ej⟩ := List.mem_iff_getElem?.mp ha
  obtain ⟨_, _, _, _, e⟩ := g.pairs j a ej
  exact Heap.lt_size e
def ZSt (xs ys : Array Value) (z TI TO i1 i2 l1 l2 S : Addr) (i : Nat) (h : Heap) : Prop := IsPair h TI (.ref i1) (.ref i2) ∧ h.IsListIter i1 l1 i ∧ h.IsListIter i2 l2 i ∧ h.IsList l1 xs ∧ h.IsList l2 ys ∧
  ((IsZip h z TI TO .none ∧ ∃ a b, IsPair h TO a b) ∨ ∃ T f oT, IsZipHeld h z TI TO T f ∧ h.get? T = some oT ∧ T ≠ z ∧ T ≠ i1 ∧ T ≠ i2 ∧ T ≠ S)
structure ZLow (z TI TO i1 i2 l1 l2 S : Addr) : Prop where
  z : z < S
  ti : TI < S
  to : TO < S
  i1 : i1 < S
  i2 : i2 < S
  l1 : l1 < S
  l2 : l2 < S
section
variable {prog : Program} {w : World} {A : Around} {Er : Value → Shared → Prop} {s : Shared} {R : Result → Shared → Prop} {xs ys : Array Value} {z TI TO i1 i2 l1 l2 S : Addr}
theorem ZSt.keep {i : Nat} {h h' : Heap} (L : ZLow z TI TO i1 i2 l1 l2 S) (x : ZSt xs ys z TI TO i1 i2 l1 l2 S i h) (hk : ∀ b o, b ≠ S → h.get? b = some o → h'.get? b = some o) : ZSt xs ys z TI TO i1 i2 l1 l2 S i h' := by
  obtain ⟨g1, g2, g3, h4, h5, h6⟩ := x
  refine ⟨hk _ _ (Nat.ne_of_lt L.ti) g1, g2.at fun o e => hk _ o (Nat.ne_of_lt L.i1) e, g3.at fun o e => hk _ o (Nat.ne_of_lt L.i2) e, h4.at fun o e => hk _ o (Nat.ne_of_lt L.l1) e, h5.at fun o e => hk _ o (Nat.ne_of_lt L.l2) e, ?_⟩
  rcases h6 with ⟨zp, a, b, pTO⟩ | ⟨T, f, oT, zp, tz, r1, r2, r3, r4⟩
  · exact .inl ⟨hk _ _ (Nat.ne_of_lt L.z) zp, a, b, hk _ _ (Nat.ne_of_lt L.to) pTO⟩
  · exact .inr ⟨T, f, oT, hk _ _ (Nat.ne_of_lt L.z) zp, hk _ _ r4 tz, r1, r2, r3, r4⟩
theorem z_item (D : ZipApart z TI TO i1 i2 l1 l2) {i : Nat} {x y : Value} {Q : Option Value → Shared → Prop} (st : ZSt xs ys z TI TO i1 i2 l1 l2 S i s.heap) (sL : S < s.heap.objs.size) (ex : xs[i]? = some x) (ey : ys[i]? = some y)
    (kQ : ∀ h', ZSt xs ys z TI TO i1 i2 l1 l2 S (i + 1) h' → IsPair h' s.heap.objs.size x y → (∀ b o, b ≠ z → b ≠ TO → b ≠ i1 → b ≠ i2 → s.heap.get? b = some o → h'.get? b = some o) → Q (some (.ref s.heap.objs.size)) { s with heap := h' }) :
    wpAny (model prog w) A (pyNext (.ref z)) Q Er s := by
  obtain ⟨pTI, g1, g2, li1, li2, zp⟩ := st
  have ne0 : ∀ {c o}, s.heap.get? c = some o → s.heap.objs.size ≠ c := fun e => Nat.ne_of_gt (Heap.lt_size e)
  have n1 : s.heap.objs.size ≠ i1 := let ⟨_, e, _⟩ := g1; ne0 e
  have n2 : s.heap.objs.size ≠ i2 := let ⟨_, e, _⟩ := g2; ne0 e
  rcases zp with ⟨zp, a, b, pTO⟩ | ⟨T, f, oT, zp, tz, r1, r2, r3, r4⟩
  · refine wpAny_pyNext_zip_item D zp pTI pTO g1 g2 li1 li2 ex ey fun h' a1 a2 a3 a4 a5 a6 hk => ?_
    exact kQ h' ⟨hk _ _ D.TIz D.TITO D.TIi1 D.TIi2 pTI, a3, a4, li1.at fun o e => hk _ o D.l1z D.l1TO D.l1i1 D.l1i2 e, li2.at fun o e => hk _ o D.l2z D.l2TO D.l2i1 D.l2i2 e,
      .inr ⟨s.heap.objs.size, false, _, a1, a5, ne0 zp, n1, n2, Nat.ne_of_gt sL⟩⟩ a5 hk
  · refine wpAny_pyNext_zip_item_held D zp tz pTI g1 g2 li1 li2 ex ey fun h' a1 a3 a4 a5 a6 hk => ?_
    exact kQ h' ⟨hk _ _ D.TIz D.TIi1 D.TIi2 pTI, a3, a4, li1.at fun o e => hk _ o D.l1z D.l1i1 D.l1i2 e, li2.at fun o e => hk _ o D.l2z D.l2i1 D.l2i2 e,
      .inr ⟨T, true, oT, a1, hk _ _ r1 r2 r3 tz, r1, r2, r3, r4⟩⟩ a5 fun b o c1 _ c3 c4 e => hk b o c1 c3 c4 e
theorem z_done (hh : A.handled = none) (D : ZipApart z TI TO i1 i2 l1 l2) {i : Nat} {Q : Option Value → Shared → Prop} (st : ZSt xs ys z TI TO i1 i2 l1 l2 S i s.heap) (fin : xs[i]? = none ∨ ys[i]? = none)
    (kQ : ∀ h', (∀ b o, b ≠ z → b ≠ TO → b ≠ i1 → b ≠ i2 → s.heap.get? b = some o → h'.get? b = some o) → Q none { s with heap := h' }) : wpAny (model prog w) A (pyNext (.ref z)) Q Er s := by
  obtain ⟨pTI, g1, g2, li1, li2, zp⟩ := st
  rcases zp with ⟨zp, a, b, pTO⟩ | ⟨T, f, oT, zp, tz, r1, r2, r3, r4⟩
  · exact wpAny_pyNext_zip_end hh D zp pTI pTO g1 g2 li1 li2 fin fun h' hk => kQ h' hk
  · exact wpAny_pyNext_zip_end_held hh D zp tz pTI g1 g2 li1 li2 fin fun h' hk => kQ h' fun b o c1 _ c3 c4 e => hk b o c1 c3 c4 e
theorem z_loop (hh : A.handled = none) (D : ZipApart z TI TO i1 i2 l1 l2) (L : ZLow z TI TO i1 i2 l1 l2 S) {n : Nat} (en : n = min xs.size ys.size) (hn : n ≤ sizeLine) (res : Value) {u1 : Heap}
    (kR : ∀ h' toks' acc c as, (∀ b o, b ≠ S → b ≠ z → b ≠ TO → b ≠ i1 → b ≠ i2 → u1.get? b = some o → h'.get? b = some o) → h'.get? S = some { cls := .type "list", dict := none, data := .seq acc c, slots := #[] } → as.length = n → ZMade xs ys S h' as →
      acc.toList = as.map Value.ref → R (.ok (.ret res)) { s with heap := h', toks := toks' }) :
    ∀ (k i : Nat) (h : Heap) (toks' c : Nat) (acc : Array Value) (as : List Addr), n - i = k → i ≤ n → ZSt xs ys z TI TO i1 i2 l1 l2 S i h → (∀ b o, b ≠ S → b ≠ z → b ≠ TO → b ≠ i1 → b ≠ i2 → u1.get? b = some o → h.get? b = some o) →
      h.get? S = some { cls := .type "list", dict := none, data := .seq acc c, slots := #[] } → acc.toList = as.map Value.ref → as.length = i → ZMade xs ys S h as →
      codeAny (model prog w) A (.builtin "list.extend.loop" ⟨[.ref S, .ref z, res], []⟩) R { s with heap := h, toks := toks' } := by
  have nz := Nat.ne_of_gt L.z
  have nTO := Nat.ne_of_gt L.to
  have n1 := Nat.ne_of_gt L.i1
  have n2 := Nat.ne_of_gt L.i2
  have far : ∀ {a : Addr}, S < a → a ≠ z ∧ a ≠ TO ∧ a ≠ i1 ∧ a ≠ i2 := fun h => ⟨Nat.ne_of_gt (Nat.lt_trans L.z h), Nat.ne_of_gt (Nat.lt_trans L.to h), Nat.ne_of_gt (Nat.lt_trans L.i1 h), Nat.ne_of_gt (Nat.lt_trans L.i2 h)⟩
  intro k
  induction k with
  | zero =>
    intro i h toks' c acc as hk hi hst hkeep sL ac ln gm
    have ein : i = n := by omega
    refine codeAny_builtin PySem.F.entry_extend_loop ?_; rw [Around.under_plainId PySem.F.plain_extend_loop _]
    show wpAny _ A.in1 (pyNext (.ref z) >>= _) _ _ _
    have fin : xs[i]? = none ∨ ys[i]? = none := by
      obtain h | h := Nat.le_total xs.size ys.size
      · exact .inl (Array.getElem?_eq_none (by rw [ein, en, Nat.min_eq_left h]; exact Nat.le_refl _))
      · exact .inr (Array.getElem?_eq_none (by rw [ein, en, Nat.min_eq_right h]; exact Nat.le_refl _))
    refine wpAny_bind (z_done (s := { s with heap := h, toks := toks' }) (A := A.in1) hh D hst fin fun h' he => ?_)
    refine wpAny_pure (kR h' toks' acc c as (fun b o c0 c1 c2 c3 c4 e => he b o c1 c2 c3 c4 (hkeep b o c0 c1 c2 c3 c4 e)) (he S _ nz nTO n1 n2 sL) (by omega) ⟨gm.rise, gm.above, fun j a ej => ?_⟩ ac)
    obtain ⟨x, y, e1, e2, e3⟩ := gm.pairs j a ej
    obtain ⟨f1, f2, f3, f4⟩ := far (gm.above a (List.mem_of_getElem? ej))
    exact ⟨x, y, e1, e2, he a _ f1 f2 f3 f4 e3⟩
  | succ k rec =>
    intro i h toks' c acc as hk hi hst hkeep sL ac ln gm
    have lti : i < n := by omega
    have ltx : i < xs.size := by have := Nat.min_le_left xs.size ys.size; omega
    have lty : i < ys.size := by have := Nat.min_le_right xs.size ys.size; omega
    have ex := Array.getElem?_eq_getElem ltx; have ey := Array.getElem?_eq_getElem lty
    have hsz : acc.size = i := by rw [← Array.length_toList, ac, List.length_map, ln]
    have hSl : S < h.objs.size := Heap.lt_size sL
    refine codeAny_builtin PySem.F.entry_extend_loop ?_; rw [Around.under_plainId PySem.F.plain_extend_loop _]
    show wpAny _ A.in1 (pyNext (.ref z) >>= _) _ _ _
    refine wpAny_bind (z_item (s := { s with heap := h, toks := toks' }) (S := S) D hst hSl ex ey fun h' hst' ht hkp => ?_)
    dsimp only at ht hkp ⊢
    have hS' := hkp S _ nz nTO n1 n2 sL
    have up : ∀ b o, b ≠ S → h'.get? b = some o → (h'.update S (Obj.mapSeq (·.push (Value.ref h.objs.size)))).get? b = some o := fun b o lb e => (Heap.get?_update_other _ _ (Ne.symm lb)).trans e
    refine wpAny_bind ?_
    refine wpAny_updateSeq hS' rfl (wpAny_pure ⟨plainId_quiet PySem.F.plain_extend_loop _, rec (i + 1) _ toks' _ (acc.push (Value.ref h.objs.size)) (as ++ [h.objs.size]) (by omega) lti (hst'.keep L up)
      (fun b o c0 c1 c2 c3 c4 e => up b o c0 (hkp b o c1 c2 c3 c4 (hkeep b o c0 c1 c2 c3 c4 e))) (Heap.get?_update_self _ hS' rfl) (by rw [Array.toList_push, ac, List.map_append]; rfl) (by rw [List.length_append, ln]; rfl) ⟨?_, ?_, ?_⟩⟩) (by rw [hsz]; omega) (by show (acc.push (Value.ref h.objs.size)).size ≤ sizeLine + 1; rw [Array.size_push, hsz]; omega)
    · refine List.pairwise_append.mpr ⟨gm.rise, List.pairwise_singleton _ _, fun a ha b lb => ?_⟩
      rw [List.mem_singleton.mp lb]
      exact gm.there ha
    · intro a ha
      obtain ha | ha := List.mem_append.mp ha
      · exact gm.above a ha
      · rw [List.mem_singleton.mp ha]; exact hSl
    · intro j b ej
      obtain g1 | g1 | g1 := Nat.lt_trichotomy j as.length
      · rw [List.getElem?_append_left g1] at ej
        obtain ⟨x, y, e1, e2, e3⟩ := gm.pairs j b ej
        have lb := gm.above b (List.mem_of_getElem? ej)
        obtain ⟨f1, f2, f3, f4⟩ := far lb
        exact ⟨x, y, e1, e2, up b _ (Nat.ne_of_gt lb) (hkp b _ f1 f2 f3 f4 e3)⟩
      · subst g1
        have lb : h.objs.size = b := by simpa using ej
        subst lb
        exact ⟨_, _, by rw [ln]; exact ex, by rw [ln]; exact ey, up _ _ (Nat.ne_of_gt hSl) ht⟩
      · have non : (as ++ [h.objs.size])[j]? = none := List.getElem?_eq_none (by rw [List.length_append, List.length_singleton]; omega)
        rw [non] at ej; cases ej
theorem zip_no_len : typeLookup (.type "zip") "__len__" = pure none := by rw [typeLookup_type, builtinLookup_eq_fast]; kernel_rfl
theorem zip_no_hint : typeLookup (.type "zip") "__length_hint__" = pure none := by rw [typeLookup_type, builtinLookup_eq_fast]; kernel_rfl
theorem z_extend (hh : A.handled = none) (D : ZipApart z TI TO i1 i2 l1 l2) (L : ZLow z TI TO i1 i2 l1 l2 S) {n : Nat} (en : n = min xs.size ys.size) (hn : n ≤ sizeLine) (st : ZSt xs ys z TI TO i1 i2 l1 l2 S 0 s.heap) (zp : IsZip s.heap z TI TO .none) (res : Value) (c₀ : Nat) (sL : s.heap.get? S = some { cls := .type "list", data := .seq #[] c₀ })
    (kR : ∀ h' toks' acc c as, (∀ b o, b ≠ S → b ≠ z → b ≠ TO → b ≠ i1 → b ≠ i2 → s.heap.get? b = some o → h'.get? b = some o) → h'.get? S = some { cls := .type "list", dict := none, data := .seq acc c, slots := #[] } → as.length = n → ZMade xs ys S h' as →
      acc.toList = as.map Value.ref → R (.ok (.ret res)) { s with heap := h', toks := toks' }) :
    wpAny (model prog w) A.in1 (Builtin.List.listExtendWith (.ref S) (.ref z) res)
      (fun out s' => match out with | .done f => R (.ok f) s' | .again c' => c'.quiet = true ∧ codeAny (model prog w) A c' R s') (fun e s' => R (.error e) s') s := by
  have tz : ∀ toks', Shared.TypeIs { s with toks := toks' } (.ref z) "zip" := fun _ => ⟨_, zp, rfl⟩
  have tzz : s.TypeIs (.ref z) "zip" := ⟨_, zp, rfl⟩
  unfold Builtin.List.listExtendWith; refine wpAny_bind (wpAny_typeOf tzz ?_)
  have g1 : Builtin.List.listSameRef (.ref S) (.ref z) = false := by simp [Builtin.List.listSameRef, Nat.ne_of_gt L.z]
  have g2 : (Value.type "zip" == Value.type "list") = false := by decide
  have g3 : (Value.type "zip" == Value.type "tuple") = false := by decide
  simp only [g1, g2, g3, Bool.or_false, Bool.false_eq_true, if_false]
  refine wpAny_bind (wpAny_pyIter_zip zp ?_); refine wpAny_bind (wpAny_holding ?_); unfold Builtin.List.listLengthHint; refine wpAny_bind (wpAny_specialOf tzz zip_no_len ?_)
  show wpAny _ A.in1 (specialOf (Value.ref z) (Str.ofString "__length_hint__") >>= _) _ _ _
  refine wpAny_bind (wpAny_specialOf tzz zip_no_hint ?_); refine wpAny_pure ?_
  show wpAny _ A.in1 (rule "list.extend.makes-room" >>= fun _unused => Builtin.List.listTouch (.ref S) >>= fun _ =>
    again (.builtin "list.extend.loop" ⟨[.ref S, .ref z, res], []⟩)) _ _ _
  refine wpAny_bind (wpAny_rule ?_); refine wpAny_bind ?_
  show wpAny _ A.in1 (updateSeq S (fun a => a.push .none) >>= fun _ => updateSeq S (fun a => a.pop)) _ _ _
  refine wpAny_bind (wpAny_updateSeq sL rfl ?_)
  have sL2 := Heap.get?_update_self (Obj.mapSeq (·.push Value.none)) sL rfl
  refine wpAny_updateSeq (hz := by seq_fits) sL2 rfl ?_
  have sL3 := Heap.get?_update_self (Obj.mapSeq (·.pop)) sL2 rfl
  have offS : ∀ b o, b ≠ S → s.heap.get? b = some o → ((s.heap.update S (Obj.mapSeq (·.push Value.none))).update S (Obj.mapSeq (·.pop))).get? b = some o :=
    fun b o lb e => (Heap.get?_update_other _ _ (Ne.symm lb)).trans ((Heap.get?_update_other _ _ (Ne.symm lb)).trans e)
  refine wpAny_pure ⟨plainId_quiet PySem.F.plain_extend_loop _, ?_⟩
  exact z_loop (s := s) (u1 := s.heap) hh D L en hn res kR n 0 _ s.toks _ #[] [] (Nat.sub_zero _) (Nat.zero_le _) (st.keep L offS) (fun b o c0 _ _ _ _ e => offS b o c0 e) sL3 rfl rfl ⟨List.Pairwise.nil, (fun _ ha => nomatch ha), (fun j a ej => by simp at ej)⟩
theorem z_call {Q : Value → Shared → Prop} (hh : A.handled = none) (D : ZipApart z TI TO i1 i2 l1 l2) (L : ZLow z TI TO i1 i2 l1 l2 s.heap.objs.size) {n : Nat} (en : n = min xs.size ys.size) (hn : n ≤ sizeLine)
    (zp : IsZip s.heap z TI TO .none) (pTI : IsPair s.heap TI (.ref i1) (.ref i2)) {a b : Value} (pTO : IsPair s.heap TO a b) (g1 : s.heap.IsListIter i1 l1 0) (g2 : s.heap.IsListIter i2 l2 0) (li1 : s.heap.IsList l1 xs) (li2 : s.heap.IsList l2 ys)
    (kQ : ∀ h' toks' acc c as, (∀ b o, b ≠ z → b ≠ TO → b ≠ i1 → b ≠ i2 → s.heap.get? b = some o → h'.get? b = some o) → h'.get? s.heap.objs.size = some { cls := .type "list", dict := none, data := .seq acc c, slots := #[] } → as.length = n → ZMade xs ys s.heap.objs.size h' as →
      acc.toList = as.map Value.ref → Q (.ref s.heap.objs.size) { s with heap := h', toks := toks' }) :
    wpAny (model prog w) A (call (.type "list") [.ref z]) Q Er s := by
  refine callType_codes (Q₁ := fun obj t1 => obj = .ref s.heap.objs.size ∧ t1 = { s with heap := s.heap.push { cls := .type "list", data := .seq #[] } }) PySem.F.called_list (PySem.F.typeCall_list_1 _) PySem.F.entry_list_init
    (code_list_new _ ⟨rfl, rfl⟩) fun obj t1 u1 => ?_
  obtain ⟨rfl, rfl⟩ := u1
  have sL : (s.heap.push { cls := .type "list", data := .seq #[] }).get? s.heap.objs.size = some { cls := .type "list", data := .seq #[] } := Heap.get?_push_size _ rfl
  refine ⟨⟨_, sL, rfl⟩, PySem.F.args_list_init_2 _ _, ?_⟩
  show wpAny _ _ (do let old ← Builtin.List.listItems (.ref s.heap.objs.size); Builtin.List.listUpdate (.ref s.heap.objs.size) (fun _ => #[]); letGo old.toList.reverse; Builtin.List.listExtendWith (.ref s.heap.objs.size) (.ref z) .none) _ _ _
  refine wpAny_bind ?_; unfold Builtin.List.listItems; refine wpAny_bind (wpAny_seqItems sL rfl (wpAny_pure ?_))
  show wpAny _ _ (updateSeq s.heap.objs.size (fun _ => #[]) >>= fun _ => letGo (#[] : Array Value).toList.reverse >>= fun _ => Builtin.List.listExtendWith (.ref s.heap.objs.size) (.ref z) .none) _ _ _
  refine wpAny_bind (wpAny_updateSeq sL rfl ?_)
  have sL2 := Heap.get?_update_self (Obj.mapSeq (fun _ => (#[] : Array Value))) sL rfl
  have offS : ∀ b o, b ≠ s.heap.objs.size → s.heap.get? b = some o → ((s.heap.push { cls := .type "list", data := .seq #[] }).update s.heap.objs.size (Obj.mapSeq (fun _ => (#[] : Array Value)))).get? b = some o :=
    fun b o lb e => (Heap.get?_update_other _ _ (Ne.symm lb)).trans (Heap.get?_push_of_some _ e)
  refine wpAny_bind (wpAny_letGo ?_); have st : ZSt xs ys z TI TO i1 i2 l1 l2 s.heap.objs.size 0 s.heap := ⟨pTI, g1, g2, li1, li2, .inl ⟨zp, a, b, pTO⟩⟩
  refine z_extend (A := A.in1) hh D L en hn (st.keep L offS) (offS _ _ (Nat.ne_of_lt L.z) zp) .none _ sL2 (fun h' toks' acc c as hk hS' hl gm ac => ?_)
  exact ⟨rfl, kQ h' toks' acc c as (fun b o c1 c2 c3 c4 e => hk b o (Nat.ne_of_lt (Heap.lt_size e)) c1 c2 c3 c4 (offS b o (Nat.ne_of_lt (Heap.lt_size e)) e)) hS' hl gm ac⟩
end
end K0

/-! ## Z2 -/
set_option maxRecDepth 100000
set_option maxHeartbeats 4000000
namespace K0
open PySem PySem.Spec PyProof.Rows L2
def putP : Hp → List Addr → List (V × V) → Hp
  | H, a :: as, p :: ps => putP (upd H a (.tup [p.1, p.2])) as ps
  | H, _, _ => H
theorem putP_off {b : Addr} : ∀ (as : List Addr) (ps : List (V × V)) (H : Hp), b ∉ as → putP H as ps b = H b
  | [], _, _, _ => rfl
  | _ :: _, [], _, _ => rfl
  | a :: as, p :: ps, H, h => by
    show putP (upd H a (.tup [p.1, p.2])) as ps b = H b
    rw [putP_off as ps _ (fun z => h (List.mem_cons_of_mem _ z)), upd_ne (fun z => h (by rw [z]; exact List.mem_cons_self))]
theorem putP_at : ∀ (as : List Addr) (ps : List (V × V)) (H : Hp), as.length = ps.length → as.Nodup → Paired (fun (t : Addr) (p : V × V) => putP H as ps t = some (.tup [p.1, p.2])) as ps
  | [], [], _, _, _ => .nil
  | [], _ :: _, _, hl, _ => by cases hl
  | _ :: _, [], _, hl, _ => by cases hl
  | a :: as, p :: ps, H, h, hn => by
    have hno := List.nodup_cons.mp hn
    have ih := putP_at as ps (upd H a (.tup [p.1, p.2])) (Nat.succ.inj h) hno.2
    refine .cons ?_ ih
    show putP (upd H a (.tup [p.1, p.2])) as ps a = some (.tup [p.1, p.2])
    rw [putP_off as ps _ hno.1, upd_same]
def rZipL (K : PySem.W.Frag) : List V → Hp → VK → Prop := fun vs H Q => ∃ (a b : Addr) (xs ys : List V), vs = [.ref a, .ref b] ∧ SqL K H a xs ∧ SqL K H b ys ∧
  ∀ (H' : Hp) (p : Addr) (ts : List Addr), (∀ b o, H b = some o → H' b = some o) → H p = none → H' p = some (.lst (ts.map V.ref)) → Paired (fun (t : Addr) (q : V × V) => H' t = some (.tup [q.1, q.2])) ts (xs.zip ys) → Q (.ref p) H'
section
variable {X : Cx} {e e2 : Expr} {ta : L2.TA} {p p2 pos pos2 : Pos}
theorem zip_laid {pins : List (Addr × Obj)} {σ : L2.St} {H : Hp} {s : Shared} {h' : Heap} {tk : Nat} {xs ys : List V} {us vs : List Value} {acc : Array Value} {c : Nat} {as : List Addr} {S : Addr} (I : Inv X pins σ H s) (hz : (xs.zip ys).length ≤ sizeLine) (lo : s.heap.objs.size ≤ S) (rx : Vals xs us) (ry : Vals ys vs)
    (kh : ∀ b o, s.heap.get? b = some o → h'.get? b = some o) (hS : h'.get? S = some { cls := .type "list", dict := none, data := .seq acc c, slots := #[] }) (hl : as.length = (xs.zip ys).length) (gm : ZMade us.toArray vs.toArray S h' as) (ac : acc.toList = as.map Value.ref) :
    ∃ H' : Hp, (∀ b o, H b = some o → H' b = some o) ∧ H S = none ∧ H' S = some (.lst (as.map V.ref)) ∧ Paired (fun (t : Addr) (q : V × V) => H' t = some (.tup [q.1, q.2])) as (xs.zip ys) ∧ Inv X pins σ H' { s with heap := h', toks := tk } := by
  have hSn : S ∉ as := fun z => Nat.lt_irrefl _ (gm.above _ z)
  have nod : as.Nodup := List.Pairwise.imp (fun {a b} (h : a < b) => Nat.ne_of_lt h) gm.rise
  have anew : ∀ t ∈ as, H t = none := fun t ht => I.hok.fresh (Nat.le_trans lo (Nat.le_of_lt (gm.above t ht)))
  have newQ : H S = none := I.hok.fresh lo
  have atP := putP_at as (xs.zip ys) (upd H S (.lst (as.map V.ref))) hl nod
  have off : ∀ b, b ∉ as → b ≠ S → putP (upd H S (.lst (as.map V.ref))) as (xs.zip ys) b = H b := fun b h1 h2 => by rw [putP_off as _ _ h1, upd_ne h2]
  have under : ∀ b o, s.heap.get? b = some o → b ∉ as ∧ b ≠ S := fun b o e => ⟨fun z => absurd (Nat.lt_of_lt_of_le (Heap.lt_size e) lo) (Nat.not_lt.mpr (Nat.le_of_lt (gm.above b z))), Nat.ne_of_lt (Nat.lt_of_lt_of_le (Heap.lt_size e) lo)⟩
  have kpH : ∀ b u, H b = some u → (putP (upd H S (.lst (as.map V.ref))) as (xs.zip ys)) b = some u := fun b u e => by
    rw [off b (fun z => by rw [anew b z] at e; cases e) (fun z => by rw [z, newQ] at e; cases e)]
    exact e
  have eS : putP (upd H S (.lst (as.map V.ref))) as (xs.zip ys) S = some (.lst (as.map V.ref)) := by rw [putP_off as _ _ hSn, upd_same]
  refine ⟨putP (upd H S (.lst (as.map V.ref))) as (xs.zip ys), kpH, newQ, eS, atP, ?_⟩
  refine I.call' (ch := []) rfl ⟨fun b o q _ _ _ => kh b o q, fun b o q _ _ _ => ⟨o.slots, kh b o q⟩, fun b o q n _ => ?_, fun b o q _ => ⟨o, kh b o q⟩, fun b xs q => kpH b _ q, fun b o u q => kpH b _ q, fun b ps q => ⟨#[], by rw [kpH b _ q]; simp⟩⟩ (fun b u q => ?_) I.bare fun b z => by simp at z
  · obtain ⟨z1, z2⟩ := under b o q
    rw [off b z1 z2]
    exact n
  · by_cases hb : b ∈ as
    · obtain ⟨j, pk, e1, e2, e3⟩ := LiI.paired_ix atP hb
      rw [e3] at q
      cases q
      obtain ⟨x, y, f1, f2, f3⟩ := gm.pairs j b e1
      obtain ⟨g1, g2⟩ := List.getElem?_zip_eq_some.mp e2
      obtain ⟨x', k1, k2⟩ := rx.get g1
      obtain ⟨y', k3, k4⟩ := ry.get g2
      have evs : x = x' := Option.some.inj (by rw [← f1, ← k1]; simp)
      have ey : y = y' := Option.some.inj (by rw [← f2, ← k3]; simp)
      exact ⟨by show 2 ≤ sizeLine; decide, [x, y], .cons (by rw [evs]; exact k2) (.cons (by rw [ey]; exact k4) .nil), ⟨_, f3, rfl, _, rfl⟩⟩
    · by_cases hb2 : b = S
      · rw [hb2] at q ⊢
        rw [eS] at q
        cases q
        refine ⟨by rw [List.length_map]; omega, acc.toList, c, by rw [ac]; exact LiI.vals_refs as, ?_⟩
        rw [Array.toArray_toList]
        exact hS
      · rw [off b hb hb2] at q
        exact (I.hok b u q).stay (fun d v _ y => kh d v y) (fun d y => kpH d _ y) fun d xs y => kpH d _ y
/-- list(zip(e, e2)) -/
theorem pe_listZip (hcalm : X.calm = true) (ha : PA X [e, e2] ta) (hg : L2.Gl X "list") (hm : X.mg "list" = none) (hv : bootBuiltins "list" = some (.type "list")) (hgz : L2.Gl X "zip") (hmz : X.mg "zip" = none)
    (hs : starEach [.Call (.Name "zip" p2) [e, e2] [] pos2] X.env = (false, eval (.Call (.Name "zip" p2) [e, e2] [] pos2) X.env) :: starEach [] X.env := by rfl)
    (hs2 : starEach [e, e2] X.env = (false, eval e X.env) :: starEach [e2] X.env := by rfl) (hpl : (backTo pos2 (starEach [e2] X.env)).any (·.1) = false := by rfl) :
    PE X (.Call (.Name "list" p) [.Call (.Name "zip" p2) [e, e2] [] pos2] [] pos) (fun σ H Q => ta σ H fun vs H1 => rZipL X.K vs H1 Q) := by
  refine ⟨fun pins s σ H Q I q0 => wpAny_Call_Name_kw (ld_blt I hg hm hv (PyProof.Rows.callWith_type1 ?_ hs rfl))⟩
  rw [hs]
  show wpAny _ _ (spliced ((false, eval (.Call (.Name "zip" p2) [e, e2] [] pos2) X.env) :: backTo pos (starEach [] X.env))) _ _ s
  refine Calls.spliced_cons ?_
  refine wpAny_Call_Name_kw (ld_blt I hgz hmz PyProof.Rows.boot_zip (PyProof.Rows.callWith_type1 (thn (ha.run pos2 pins s σ H _ I q0) fun us s1 ⟨vs, H1, I1, r1, q1⟩ => ?_) hs2 hpl))
  obtain ⟨a, b, xs, ys, evs, sx, sy, q⟩ := q1
  subst evs
  cases r1 with
  | cons r rr =>
    cases rr with
    | cons r' rr =>
      cases rr
      cases r
      cases r'
      obtain ⟨its, rv, p1, z1⟩ := I1.list sx
      obtain ⟨its2, rv2, p2', z2⟩ := I1.list sy
      have alt : a < s1.heap.objs.size := p1.lt
      have blt' : b < s1.heap.objs.size := p2'.lt
      refine call_zip_2 p1.isList p2'.isList fun h' hz hTI hTO h1 h2 hsz kh => ?_
      refine Calls.spliced_nil ?_
      have len : (xs.zip ys).length = min its.toArray.size its2.toArray.size := by
        have l1 := rv.length
        have l2 := rv2.length
        simp only [List.length_zip, List.size_toArray]
        rw [l1, l2]
      have hnz : (xs.zip ys).length ≤ sizeLine := by
        rw [List.length_zip]
        omega
      refine z_call (s := { s1 with heap := h' }) (I1.ok.hd hcalm) (PySem.W.ktu_apart s1.heap.objs.size a b alt blt') (n := (xs.zip ys).length) ?_ len hnz hz hTI hTO h1 h2 (p1.isList.at fun o e => kh _ o e) (p2'.isList.at fun o e => kh _ o e) fun h'' tk acc c as hk2 hS' hl gm ac => ?_
      · have up : ∀ k, k < 5 → s1.heap.objs.size + k < h'.objs.size := fun k kh => by rw [hsz]; exact Nat.add_lt_add_left kh _
        exact ⟨up 4 (by decide), up 2 (by decide), up 3 (by decide), up 0 (by decide), up 1 (by decide), Nat.lt_trans alt (up 0 (by decide)), Nat.lt_trans blt' (up 0 (by decide))⟩
      · have fr : ∀ {c o}, s1.heap.get? c = some o → c ≠ s1.heap.objs.size + 4 ∧ c ≠ s1.heap.objs.size + 3 ∧ c ≠ s1.heap.objs.size ∧ c ≠ s1.heap.objs.size + 1 := fun e => by
          have z := Heap.lt_size e
          exact ⟨Nat.ne_of_lt (Nat.lt_of_lt_of_le z (Nat.le_add_right _ _)), Nat.ne_of_lt (Nat.lt_of_lt_of_le z (Nat.le_add_right _ _)), Nat.ne_of_lt z, Nat.ne_of_lt (Nat.lt_of_lt_of_le z (Nat.le_add_right _ _))⟩
        have hk' : ∀ b o, s1.heap.get? b = some o → h''.get? b = some o := fun b o e => by
          obtain ⟨f1, f2, f3, f4⟩ := fr e
          exact hk2 b o f1 f2 f3 f4 (kh b o e)
        obtain ⟨H', k1, k2, k3, k4, J⟩ := zip_laid (tk := tk) I1 hnz (by show s1.heap.objs.size ≤ h'.objs.size; rw [hsz]; exact Nat.le_add_right _ _) rv rv2 hk' hS' hl gm ac
        exact ⟨.ref _, H', J, rfl, q H' _ as k1 k2 k3 k4⟩
end
end K0

/-! ## Y21 -/
set_option maxRecDepth 100000
set_option maxHeartbeats 8000000
namespace K0
open PySem L2 NS RZ
/-! ### dicts of names made of pairs -/
theorem unlock_same {H H' : Hp} {d : Addr} {od : Obj} {u : HO} (hd : H d = some u) (s : Same (upd H d (.frz od u)) H') : Same H (upd H' d u) := fun c o e => by
  by_cases q : c = d
  · rw [q] at e ⊢
    rw [hd] at e
    rw [upd_same]
    exact e
  · rw [upd_ne q]
    exact s _ _ (by rw [upd_ne q]; exact e)
theorem lock_ne {H : Hp} {d : Addr} {o : HO} {c : Addr} {v : HO} (hd : H d = some v) (hc : upd H d o c = none) : c ≠ d ∧ H c = none := by
  have q : c ≠ d := fun e => by rw [e, upd_same] at hc; cases hc
  rw [upd_ne q] at hc
  exact ⟨q, hc⟩
theorem paired_imp2 {α β γ : Type} {F : α → β → Prop} {G : α → γ → Prop} (g : β → γ) (h : ∀ a b, F a b → G a (g b)) : ∀ {xs : List α} {ys : List β}, Paired F xs ys → Paired G xs (ys.map g)
  | _, _, .nil => .nil
  | _, _, .cons r t => .cons (h _ _ r) (paired_imp2 g h t)
theorem paired_unmap {α β γ : Type} {F : α → γ → Prop} {g : β → γ} : ∀ {xs : List α} {ys : List β}, Paired F xs (ys.map g) → Paired (fun a b => F a (g b)) xs ys
  | [], [], _ => .nil
  | _ :: _, [], h => by cases h
  | [], _ :: _, h => by cases h
  | _ :: _, _ :: _, h => by
    cases h with
    | cons r t => exact .cons r (paired_unmap t)
theorem paired_imp3 {α β : Type} {F G : α → β → Prop} (h : ∀ a b, F a b → G a b) : ∀ {xs : List α} {ys : List β}, Paired F xs ys → Paired G xs ys
  | _, _, .nil => .nil
  | _, _, .cons r t => .cons (h _ _ r) (paired_imp3 h t)
theorem merge_new : ∀ (b a : List (Key × V)), ((a ++ b).map (·.1)).Nodup → mergeK a b = a ++ b
  | [], a, _ => (List.append_nil a).symm
  | kv :: b, a, h => by
    show mergeK (putK a kv.1 kv.2) b = _
    have e : putK a kv.1 kv.2 = a ++ [kv] := by
      have no : (a.any fun kv' => decide (kv'.1 = kv.1)) = false := by
        refine Bool.eq_false_iff.mpr fun z => ?_
        obtain ⟨y, hy, ey⟩ := List.any_eq_true.mp z
        rw [List.map_append, List.nodup_append] at h
        exact h.2.2 y.1 (List.mem_map.mpr ⟨y, hy, rfl⟩) kv.1 (List.mem_map.mpr ⟨kv, List.mem_cons_self, rfl⟩) (of_decide_eq_true ey)
      unfold putK
      rw [no, if_neg Bool.false_ne_true]
    rw [e, merge_new b (a ++ [kv]) (by rw [List.append_assoc]; exact h), List.append_assoc]
    rfl
def pairK (kf vf : Str → Str) (x : Str) : Key × V := (Sum.inr (kf x), V.str (vf x))
theorem merge_pairs {xs : List Str} {kf vf : Str → Str} (nd : (xs.map kf).Nodup) : mergeK [] (xs.map (pairK kf vf)) = xs.map (pairK kf vf) := by
  refine merge_new _ [] ?_
  rw [List.nil_append, List.map_map]
  have e : ((fun p : Key × V => p.1) ∘ pairK kf vf) = (Sum.inr : Str → Key) ∘ kf := rfl
  rw [e, ← List.map_map]
  exact List.pairwise_map.mpr (nd.imp fun {a b} n z => n (Sum.inr.inj z))
/-- what leads back -/
def inv (f : Str → Str) (xs : List Str) (y : Str) : Str := (xs.find? fun x => decide (f x = y)).getD y
theorem inv_at {f : Str → Str} : ∀ {xs : List Str}, Inj f xs → ∀ {x : Str}, x ∈ xs → inv f xs (f x) = x
  | a :: xs, inj, x, h => by
    unfold inv
    by_cases e : f a = f x
    · rw [List.find?_cons_of_pos (by exact decide_eq_true e)]
      exact inj a List.mem_cons_self x h e
    · rw [List.find?_cons_of_neg (by rw [decide_eq_false e]; exact Bool.false_ne_true)]
      have hx : x ∈ xs := (List.mem_cons.mp h).resolve_left fun z => e (by rw [z])
      exact inv_at (fun u hu v hv => inj u (List.mem_cons_of_mem _ hu) v (List.mem_cons_of_mem _ hv)) hx
theorem map_nodup {f : Str → Str} {xs : List Str} (nd : xs.Nodup) (inj : Inj f xs) : (xs.map f).Nodup := List.pairwise_map.mpr (nd.imp_of_mem fun {a b} ha hb n e => n (inj a ha b hb e))
theorem inv_inj {f : Str → Str} {xs : List Str} (inj : Inj f xs) : Inj (inv f xs) (xs.map f) := fun x hx y hy e => by
  obtain ⟨a, ha, rfl⟩ := List.mem_map.mp hx
  obtain ⟨b, hb, rfl⟩ := List.mem_map.mp hy
  rw [inv_at inj ha, inv_at inj hb] at e
  rw [e]
theorem namd_inv {H : Hp} {d : Addr} {xs : List Str} {f : Str → Str} (nd : xs.Nodup) (inj : Inj f xs) (h : H d = some (.dK (xs.map (pairK f id)))) : NamD H d (xs.map f) (inv f xs) := by
  refine ⟨xs.map f, map_nodup nd inj, fun _ => Iff.rfl, ?_⟩
  rw [h, List.map_map]
  refine congrArg (fun z => some (HO.dK z)) (List.map_congr_left fun x hx => ?_)
  show pairK f id x = fKv (inv f xs) (f x)
  unfold pairK fKv
  rw [inv_at inj hx]
  rfl
theorem namd_pairs {H : Hp} {d : Addr} {xs : List Str} {f : Str → Str} (nd : xs.Nodup) (h : H d = some (.dK (xs.map (pairK id f)))) : NamD H d xs f := ⟨xs, nd, fun _ => Iff.rfl, h⟩
/-- references made one by one -/
theorem refs_of {P : Addr → Str → Prop} : ∀ (acc : List V) (xs : List Str), acc.length = xs.length → (∀ (i : Nat) (y : V), acc[i]? = some y → ∃ (t : Addr) (x : Str), y = V.ref t ∧ xs[i]? = some x ∧ P t x) → ∃ ts : List Addr, acc = ts.map V.ref ∧ Paired P ts xs
  | [], [], _, _ => ⟨[], rfl, .nil⟩
  | [], _ :: _, h, _ => by cases h
  | _ :: _, [], h, _ => by cases h
  | y :: acc, x :: xs, h, g => by
    obtain ⟨t, x', rfl, ex, p⟩ := g 0 y rfl
    obtain rfl : x = x' := Option.some.inj ex
    obtain ⟨ts, rfl, r⟩ := refs_of acc xs (Nat.succ.inj h) fun i u hu => g (i + 1) u hu
    exact ⟨t :: ts, rfl, .cons p r⟩
theorem refs_of2 {P : Addr → Str → Str → Prop} {G : Str → Prop} : ∀ (acc : List V) (xs : List Str), acc.length = xs.length → (∀ (i : Nat) (y : V), acc[i]? = some y → ∃ (t : Addr) (x z : Str), y = V.ref t ∧ xs[i]? = some x ∧ G z ∧ P t x z) →
    ∃ (ts : List Addr) (zs : List Str), acc = ts.map V.ref ∧ zs.length = xs.length ∧ (∀ z ∈ zs, G z) ∧ Paired (fun (t : Addr) (u : Str × Str) => P t u.1 u.2) ts (xs.zip zs)
  | [], [], _, _ => ⟨[], [], rfl, rfl, (fun z h => by cases h), .nil⟩
  | [], _ :: _, h, _ => by cases h
  | _ :: _, [], h, _ => by cases h
  | y :: acc, x :: xs, h, g => by
    obtain ⟨t, x', z, rfl, ex, gz, p⟩ := g 0 y rfl
    obtain rfl : x = x' := Option.some.inj ex
    obtain ⟨ts, zs, rfl, e2, e3, r⟩ := refs_of2 acc xs (Nat.succ.inj h) fun i u hu => g (i + 1) u hu
    refine ⟨t :: ts, z :: zs, rfl, by rw [List.length_cons, List.length_cons, e2], fun u hu => ?_, .cons p r⟩
    rcases List.mem_cons.mp hu with e | e
    · rw [e]; exact gz
    · exact e3 u e
/-- dict([..]) of a list of pairs -/
theorem paired_kv {K : PySem.W.Frag} {H : Hp} {ts : List Addr} {xs : List Str} {kf vf : Str → Str} (pr : Paired (fun (t : Addr) (x : Str) => H t = some (.tup [.str (kf x), .str (vf x)])) ts xs) : Paired (fun p (kv : Key × V) => SqT K H p [kV kv.1, kv.2]) ts (xs.map (pairK kf vf)) := paired_imp2 (pairK kf vf) (fun _ _ e => SqT.of e) pr
/-- place by place -/
def atF (xs zs : List Str) (k : Str) : Str := zs.getD (xs.idxOf k) Str.empty
theorem atF_at {xs zs : List Str} (nd : xs.Nodup) {i : Nat} {x z : Str} (hx : xs[i]? = some x) (hz : zs[i]? = some z) : atF xs zs x = z := by
  obtain ⟨hi, e⟩ := List.getElem?_eq_some_iff.mp hx
  unfold atF
  rw [← e, nd.idxOf_getElem i hi, List.getD, hz]
  rfl
theorem zip_at {xs zs : List Str} (nd : xs.Nodup) (l : xs.length ≤ zs.length) : xs.zip zs = xs.map fun x => (x, atF xs zs x) := by
  refine List.ext_getElem? fun i => ?_
  by_cases h : i < xs.length
  · have h2 : i < zs.length := Nat.lt_of_lt_of_le h l
    have e1 := List.getElem?_eq_getElem h
    have e2 := List.getElem?_eq_getElem h2
    have e3 : (xs.zip zs)[i]? = some (xs[i], zs[i]) := List.getElem?_zip_eq_some.mpr ⟨e1, e2⟩
    rw [List.getElem?_map, e1, e3]
    show _ = some (xs[i], atF xs zs xs[i])
    rw [atF_at nd e1 e2]
  · rw [List.getElem?_eq_none (by rw [List.length_zip]; omega), List.getElem?_eq_none (by rw [List.length_map]; omega)]
theorem atF_mem {xs zs : List Str} (nd : xs.Nodup) (l : xs.length ≤ zs.length) {x : Str} (h : x ∈ xs) : atF xs zs x ∈ zs := by
  obtain ⟨i, hi, rfl⟩ := List.getElem_of_mem h
  have h2 : i < zs.length := Nat.lt_of_lt_of_le hi l
  rw [atF_at nd (List.getElem?_eq_getElem hi) (List.getElem?_eq_getElem h2)]
  exact List.getElem_mem h2
theorem atF_inj {xs zs : List Str} (nd : xs.Nodup) (l : xs.length ≤ zs.length) (nz : zs.Nodup) : Inj (atF xs zs) xs := fun x hx y hy e => by
  obtain ⟨i, hi, rfl⟩ := List.getElem_of_mem hx
  obtain ⟨j, hj, rfl⟩ := List.getElem_of_mem hy
  have hi2 : i < zs.length := Nat.lt_of_lt_of_le hi l
  have hj2 : j < zs.length := Nat.lt_of_lt_of_le hj l
  rw [atF_at nd (List.getElem?_eq_getElem hi) (List.getElem?_eq_getElem hi2), atF_at nd (List.getElem?_eq_getElem hj) (List.getElem?_eq_getElem hj2)] at e
  have z := (List.getElem_inj nz).mp e
  subst z
  rfl
/-! ### questions led back -/
theorem mapC_comp {f g : Str → Str} {c : CL} (h : ∀ k ∈ c.2, g (f k) = k) : mapC g (mapC f c) = c := by
  unfold mapC
  rw [List.map_map]
  refine Prod.ext rfl ?_
  show c.2.map (g ∘ f) = c.2
  have e : c.2.map (g ∘ f) = c.2.map id := List.map_congr_left h
  rw [e, List.map_id]
theorem back_cols {q : PQ} (g : WfQ q) {f h : Str → Str} (hb : ∀ k ∈ colsIn q.cls, h (f k) = k) {cs' cs'' : List CL} (s : Srt cs' (q.cls.map (mapC f))) (s2 : Srt cs'' (cs'.map (mapC h))) : cs'' = q.cls := by
  refine s2.one ⟨g.c.up, fun c => ⟨fun hc => ?_, fun hc => ?_⟩⟩
  · refine List.mem_map.mpr ⟨mapC f c, (s.mem _).mpr (List.mem_map.mpr ⟨c, hc, rfl⟩), mapC_comp fun k hk => hb k (colsIn_mem.mpr ⟨c, hc, hk⟩)⟩
  · obtain ⟨d, hd, rfl⟩ := List.mem_map.mp hc
    obtain ⟨e, he, rfl⟩ := List.mem_map.mp ((s.mem _).mp hd)
    rw [mapC_comp fun k hk => hb k (colsIn_mem.mpr ⟨e, he, hk⟩)]
    exact he
theorem back_asked {q : PQ} (g : WfQ q) {f h : Str → Str} (hb : ∀ k ∈ colsIn q.cls, h (f k) = k) : (q.asked.map f).map h = q.asked := by
  rw [List.map_map]
  have e : q.asked.map (h ∘ f) = q.asked.map id := List.map_congr_left fun k hk => hb k (g.ask k hk)
  rw [e, List.map_id]
theorem back_tabs {q : PQ} (g : WfQ q) {f h : Str → Str} (hb : ∀ c ∈ q.cls, h (f c.1) = c.1) {cs' cs'' : List CL} (s : Srt cs' (q.cls.map (tabC f))) (s2 : Srt cs'' (cs'.map (tabC h))) : cs'' = q.cls := by
  have comp : ∀ c ∈ q.cls, tabC h (tabC f c) = c := fun c hc => Prod.ext (hb c hc) rfl
  refine s2.one ⟨g.c.up, fun c => ⟨fun hc => ?_, fun hc => ?_⟩⟩
  · exact List.mem_map.mpr ⟨tabC f c, (s.mem _).mpr (List.mem_map.mpr ⟨c, hc, rfl⟩), comp c hc⟩
  · obtain ⟨d, hd, rfl⟩ := List.mem_map.mp hc
    obtain ⟨e, he, rfl⟩ := List.mem_map.mp ((s.mem _).mp hd)
    rw [comp e he]
    exact he
theorem cols_map {cs cs' : List CL} {f : Str → Str} (s : Srt cs' (cs.map (mapC f))) (k : Str) : k ∈ colsIn cs' ↔ ∃ x ∈ colsIn cs, f x = k := by
  rw [colsIn_mem]
  constructor
  · rintro ⟨c, hc, h⟩
    obtain ⟨d, hd, rfl⟩ := List.mem_map.mp ((s.mem c).mp hc)
    obtain ⟨x, hx, e⟩ := List.mem_map.mp h
    exact ⟨x, colsIn_mem.mpr ⟨d, hd, hx⟩, e⟩
  · rintro ⟨x, hx, rfl⟩
    obtain ⟨d, hd, h⟩ := colsIn_mem.mp hx
    exact ⟨mapC f d, (s.mem _).mpr (List.mem_map.mpr ⟨d, hd, rfl⟩), List.mem_map.mpr ⟨x, h, rfl⟩⟩
/-! ### the widths, with the tables by their keys -/
def spLWid3 : Sp := fun vs H Q _ => ∃ (d : Addr) (q : PQ), vs = [.ref d] ∧ PlA H d q ∧ q.cls.length ≤ 1000 ∧ ∀ a kvs H' (ls : List Str), Same H H' → H a = none → H' a = some (.dK kvs) → kvs.map (fun kv => kV kv.1) = ls.map V.str → ls.Nodup → (∀ t, t ∈ ls ↔ ∃ c ∈ q.cls, c.1 = t) → Q (.ref a) H'
section
variable {P : Program} {w : World} {K : PySem.W.Frag} {mg : Str → Option Value} {base : Heap}
theorem ok_lWid3 {f : Addr} {fd : FuncData} (F : Fun K "_law_widths" "_law_widths" sLWid f fd) (T : TLs K mg) : FnOk P w K mg base CX0 1 f fd ["_law_plain"] spLWid3 := by
  refine F.ok scLWid (fun vs H Q E h => ?_) (fun cdv A outer s H vs Q E hr h => ?_)
  · obtain ⟨d, q, rfl, _⟩ := h
    rfl
  · obtain ⟨d, q, rfl, ⟨lc, la, ts, h1, h2, h3, h4⟩, g, k⟩ := h
    refine ⟨_, pss_one (ps_ret (pe_callTy (call_dictP rfl) (by rfl) T.dct (by decide +kernel) (pa_cons (pe_callB (cr_sortList hr.units) (by rfl) T.srt (by decide +kernel) (pa_cons
        (pe_lc (own := [("_law_table", 1), ("_law_columns_here", 2)]) (g := gTup K 2 (gCons (gName 1) (gCons (gName 2) gNil))) (tt := tYes) rfl scLWid.nd (pi_list (pe_dget (lt1 hr.units) (pv 0) pe_str (fun _ _ => rfl)))
          (blkOk_by (own := [("_law_table", 1), ("_law_columns_here", 2)]) (N := nLWid) (sc := defScope sLWid) (by decide +kernel))
          (fun _ _ _ _ _ => pg_tup rfl (pgs_cons (pg_name (i := 1) scLWid.nd rfl (Or.inl rfl)) (pgs_cons (pg_name (i := 2) scLWid.nd rfl (Or.inl rfl)) pgs_nil))) (fun _ _ _ _ _ => pts_nil)
          (fun _ _ _ _ _ => pe_tup (pa_cons (pv 1) (pa_cons (pe_callB (id := "len") (r := rLenS K) call_len_seq (by rfl) T.len PySem.boot_len (pa_cons (pv 2) pa_nil)) pa_nil)))) pa_nil)) pa_nil))), ?_⟩
    have n1 : ts.length = q.cls.length := h3.len
    have c8 := g
    refine ⟨_, rfl, d, V.ref lc, rfl, DGet.k (k := Sum.inr "clauses") h1, lc, rfl, ⟨_, SqL.of h2⟩, fun D hD => lc_made (walk_list (K := K) (a := lc) (xs := ts.map V.ref)) (fun i y H' => ∃ t c, y = V.ref t ∧ q.cls[i]? = some c ∧ t ≠ D ∧ H' t = some (.tup [.str c.1, .int c.2.length]))
      (fun i y H1 H2 ⟨t, c, e1, e2, n1, h1⟩ kd => ⟨t, c, e1, e2, n1, kd _ _ n1 h1⟩) (by rw [List.length_map, sizeLine_eq]; omega) hD (fun H2 s2 => SqL.of (s2 _ _ h2)) ?_ gPair_mono ?_⟩
    · rintro i x H2 H3 hi s2 ⟨acc, hacc⟩ ⟨rfl, hx⟩
      rw [List.getElem?_map] at hx
      obtain ⟨t, ht, rfl⟩ := Option.map_eq_some_iff.mp hx
      obtain ⟨hti, et⟩ := List.getElem?_eq_some_iff.mp ht
      obtain ⟨c, hci, hA⟩ := h3.at_ i hti
      rw [et] at hA
      obtain ⟨t2, g1, g2⟩ := hA.same s2
      refine ⟨t, _, rfl, SqT.of g1, rfl, _, _, rfl, _, _, rfl, rfl, rfl, fun Q' hq => ⟨_, rfl, _, rfl, t2, _, rfl, .inr (SqT.of g2), ?_⟩⟩
      rw [List.length_map]
      refine ⟨by show 2 ≤ sizeLine; decide, fun m hm => hq _ _ (K0.Same.new _ hm) ⟨m, c, rfl, hci, ?_, upd_same⟩⟩
      intro e
      rw [e, hacc] at hm
      cases hm
    · intro H2 acc s2 hD2 hlen hR
      rw [List.length_map, n1] at hlen
      obtain ⟨N, rfl, e2, e3⟩ := rows_w acc q.cls hlen hR
      refine ⟨D, N, 2, rfl, SqL.of hD2, fun m hm => ?_, ⟨.inr (.inl rfl), fun m hm => ?_, fun m hm m' hm' => ?_⟩, fun M' p pm so hp => ?_⟩
      · obtain ⟨c, z1, z2⟩ := e3 m hm
        refine ⟨?_, by rw [z1, kW_depth]; decide⟩
        rw [z1]
        exact .tup (SqT.of z2) (.cons (.str _) (.cons (.int _) .nil))
      · obtain ⟨c, z1, _⟩ := e3 m hm
        exact ⟨_, _, z1, rfl⟩
      · obtain ⟨c, z1, _⟩ := e3 m hm
        obtain ⟨c', z1', _⟩ := e3 m' hm'
        rw [z1, z1']
        exact ok_kW c c'
      · have sp := K0.Same.new (.lst (M'.map fun m => V.ref m.1)) hp
        obtain ⟨cs2, ek, e4⟩ := rows_atW (H := H2) M' fun m hm => e3 m (pm.mem_iff.mp hm)
        have em : upd H2 p (.lst (M'.map fun m => V.ref m.1)) p = some (.lst ((M'.map (·.1)).map V.ref)) := by
          rw [upd_same, List.map_map]
          rfl
        refine ⟨p, M'.map (·.1), cs2.map wV, rfl, SqL.of em, paired_w M' cs2 ek fun m hm => ?_, fun a ha => ?_⟩
        · obtain ⟨c, z1, z2⟩ := e3 m (pm.mem_iff.mp hm)
          exact ⟨c, z1, sp _ _ z2⟩
        · rw [merge_tabs]
          have pk : (cs2.map kW).Perm (q.cls.map kW) := by
            rw [← ek, ← e2]
            exact pm.map _
          obtain ⟨ls, l1, l2, l3⟩ := tabs_keys cs2
          refine k a _ _ ls (K0.Same.tr s2 (K0.Same.tr sp (K0.Same.new _ ha))) (none_back s2 (none_back sp ha)) upd_same (tabs_strs l1) l2 fun t => (l3 t).trans ⟨fun ⟨c, hc, e⟩ => ?_, fun ⟨c, hc, e⟩ => ?_⟩
          · obtain ⟨c', h', e'⟩ := List.mem_map.mp (pk.mem_iff.mp (List.mem_map.mpr ⟨c, hc, rfl⟩))
            exact ⟨c', h', (kW_inj e').1.trans e⟩
          · obtain ⟨c', h', e'⟩ := List.mem_map.mp (pk.mem_iff.mpr (List.mem_map.mpr ⟨c, hc, rfl⟩))
            exact ⟨c', h', (kW_inj e').1.trans e⟩
end
end K0

/-! ## Y22 -/
set_option maxRecDepth 100000
set_option maxHeartbeats 8000000
namespace K0
open PySem L2 NS RZ
/-! ### == and != of questions, by the names -/
theorem QuO.ins {K : PySem.W.Frag} {C : Addr} {H : Hp} {a : Addr} {q : PQ} (h : QuO K C H a q) : ∃ dx fs, H a = some (.ins C dx fs) := by
  obtain ⟨tc, ta, to, td, ts, ns, U⟩ := h
  obtain ⟨dx, e⟩ := U.ob
  exact ⟨dx, _, e⟩
/-- a != b, two questions -/
theorem ne_qq {K : PySem.W.Frag} {C : Addr} {H : Hp} {a b : Addr} {q q2 : PQ} {Q : VK} (nf : PySem.W.notFirst K C (.ref C) = true) (U : QuO K C H a q) (g : WfQ q) (V2 : QuO K C H b q2) (g2 : WfQ q2) (k : Q (.bl (!eqQ q q2)) H) : rNeOwn K C (spQEq K C) eN (.ref a) (.ref b) H Q := by
  obtain ⟨dx, fs, e⟩ := U.ins
  obtain ⟨dx2, fs2, e2⟩ := V2.ins
  exact ⟨a, dx, fs, .ref C, rfl, e, .ins e2, nf, a, q, .ref b, rfl, U, g, .inl ⟨b, q2, rfl, V2, g2, _, rfl, k⟩⟩
theorem eq_qq {K : PySem.W.Frag} {C : Addr} {H : Hp} {a b : Addr} {q q2 : PQ} {Q : VK} (nf : PySem.W.notFirst K C (.ref C) = true) (U : QuO K C H a q) (g : WfQ q) (V2 : QuO K C H b q2) (g2 : WfQ q2) (k : Q (.bl (eqQ q q2)) H) : rEqOwn K C (spQEq K C) eN (.ref a) (.ref b) H Q := by
  obtain ⟨dx, fs, e⟩ := U.ins
  obtain ⟨dx2, fs2, e2⟩ := V2.ins
  exact ⟨a, dx, fs, .ref C, rfl, e, .ins e2, nf, a, q, .ref b, rfl, U, g, .inl ⟨b, q2, rfl, V2, g2, k⟩⟩
theorem eqQ_rfl (q : PQ) : eqQ q q = true := by
  unfold eqQ
  rw [decide_eq_true rfl, decide_eq_true rfl]
  rfl
structure EqQ (P : Program) (w : World) (K : PySem.W.Frag) (mg : Str → Option Value) (base : Heap) (C : Addr) : Prop where
  ex : ∃ g, PySem.W.findIn K (.ref C) "__eq__" = some (some (.ref g)) ∧ PySem.W.isFn K (.ref g) = true ∧ FnR P w K mg base CX0 1 g (spQEq K C)
  ne : PySem.W.findIn K (.ref C) "__ne__" = some (some (.builtin "object.__ne__"))
  obj : PySem.W.mroIn K C (.type "object") = some true
  nf : PySem.W.notFirst K C (.ref C) = true
section
variable {X : Cx} {C : Addr}
theorem op_neQ (Z : EqQ X.prog X.w X.K X.mg X.base C) (hr : Room 2 X.A) : OpR X (compareOp .NotEq) (rNeOwn X.K C (spQEq X.K C) eN) := by
  obtain ⟨g, h1, h2, F⟩ := Z.ex
  exact op_neOwn Z.obj Z.ne h1 h2 F hr pass0
theorem op_eqQ (Z : EqQ X.prog X.w X.K X.mg X.base C) (hr : Room 1 X.A) : OpR X (compareOp .Eq) (rEqOwn X.K C (spQEq X.K C) eN) := by
  obtain ⟨g, h1, h2, F⟩ := Z.ex
  exact op_eqOwn h1 h2 F hr pass0
end
theorem NamD.kt {H H' : Hp} {d p : Addr} {ks : List Str} {f : Str → Str} (h : NamD H d ks f) (hp : DiceAt H p) (k : Kt p H H') : NamD H' d ks f := by
  obtain ⟨ps, h1, h2, h3⟩ := h.at_
  exact ⟨ps, h1, h2, kt_no k hp h3 (fun _ z => by cases z) dK_t⟩
theorem NamD.get {H : Hp} {d : Addr} {ks : List Str} {f : Str → Str} (h : NamD H d ks f) {x : Str} (hx : x ∈ ks) : DGet H d (.str x) (some (.str (f x))) := by
  obtain ⟨ps, p1, p2, p3⟩ := h.at_
  rw [← valV_fKv (f := f) ((p2 _).mpr hx)]
  exact DGet.k (k := Sum.inr _) p3
/-! ### names right -/
abbrev sNr : Stmt := top 53
abbrev nNr : List Str := ["_law_dice_here", "_law_plain", "_law_question_here", "_law_columns_here", "_law_widths_here", "_law_names_here", "_law_fresh", "_law_back", "_law_tables", "_law_due", "_law_other", "_law_images_here", "_law_table", "_law_some", "_law_column"]
theorem scNr : FnScope nNr ["_law_dice_here", "_law_plain", "_law_question_here"] (defScope sNr) := ⟨rfl, rfl, rfl, by decide +kernel, rfl, by decide +kernel, by decide +kernel⟩
structure LN (P : Program) (w : World) (K : PySem.W.Frag) (mg : Str → Option Value) (base : Heap) (C fC fW fI fS fR fM fP fQ fF : Addr) (fdC fdW fdI fdS fdR fdM fdP fdQ fdF : FuncData) : Prop where
  len : mg "len" = none
  list : mg "list" = none
  dct : mg "dict" = none
  zip : mg "zip" = none
  eC : Gl K mg "_law_columns" fC
  GC : FnOk P w K mg base CX0 1 fC fdC ["_law_plain"] spCols2
  bC : Binds K fdC ["_law_plain"] []
  eW : Gl K mg "_law_widths" fW
  GW : FnOk P w K mg base CX0 1 fW fdW ["_law_plain"] spLWid3
  bW : Binds K fdW ["_law_plain"] []
  eI : Gl K mg "_law_images" fI
  GI : FnOk P w K mg base CX0 3 fI fdI ["_law_dice_here", "_law_columns_here"] spImages
  bI : Binds K fdI ["_law_dice_here", "_law_columns_here"] []
  eS : Gl K mg "_law_asked" fS
  FS : Fun K "_law_asked" "_law_asked" sAsked fS fdS
  bS : Binds K fdS ["_law_call"] []
  eR : Gl K mg "_law_renamed" fR
  GR : FnOk P w K mg base CX0 2 fR fdR ["_law_plain", "_law_names_here"] spLRen
  bR : Binds K fdR ["_law_plain", "_law_names_here"] []
  eM : Gl K mg "_law_mixed" fM
  GM : FnOk P w K mg base CX0 2 fM fdM ["_law_dice_here", "_law_items"] spMixed
  bM : Binds K fdM ["_law_dice_here", "_law_items"] []
  eP : Gl K mg "_law_pick" fP
  GP : FnOk P w K mg base CX0 2 fP fdP ["_law_dice_here", "_law_items"] spPick
  bP : Binds K fdP ["_law_dice_here", "_law_items"] []
  eQ : Gl K mg "_law_question" fQ
  GQ : FnOk P w K mg base CX0 1 fQ fdQ ["_law_clauses", "_law_asked_here"] spQuest
  bQ : Binds K fdQ ["_law_clauses", "_law_asked_here"] []
  eF : Gl K mg "_law_first_ones" fF
  GF : FnOk P w K mg base CX0 1 fF fdF ["_law_items"] (spLFo K)
  bF : Binds K fdF ["_law_items"] []
  ZR : OwnM P w K mg base CX0 C 8 "renamed" "names" (spRenamed K C)
  ZF : OwnM P w K mg base CX0 C 7 "folded" "names" (spFolded K C)
  ZT : OwnM P w K mg base CX0 C 7 "retabled" "names" (spRetab K C)
def tabs8n : List Str := ["t", "r", "s", "q", "z", "clause", "rows", "ab"]
theorem tabs8n_ok : tabs8n.Nodup ∧ tabs8n.length = 8 ∧ ∀ k ∈ tabs8n, nameS k = true := by decide +kernel
section
variable {P : Program} {w : World} {K : PySem.W.Frag} {mg : Str → Option Value} {base : Heap} {C CC CQ fC fW fI fS fR fM fP fQ fF : Addr} {fdC fdW fdI fdS fdR fdM fdP fdQ fdF : FuncData} {T : List (Addr × Str)}
theorem ok_nr {f c PT : Addr} {fd : FuncData} (F : FunC K "_law_names_right" "_law_names_right" sNr f fd c) (L : LN P w K mg base C fC fW fI fS fR fM fP fQ fF fdC fdW fdI fdS fdR fdM fdP fdQ fdF) (J : TAs K mg CC CQ) (TQ0 : TQu K C) (ZE : EqQ P w K mg base C)
    (Zc0 : Getter P w K mg base C 1 "clauses" (getSp C "_clauses")) (Za : Getter P w K mg base C 1 "asked" (getSp C "_asked"))
    (TB : LamX.TabB base mg c PT) (hT : ∀ q, (PT, q) ∈ T ↔ q = ("_law_names_right.<locals>.<lambda>" : Str)) : FnG P w K mg base CX0 10 f fd ["_law_dice_here", "_law_plain", "_law_question_here"] (spRight3 K C T) := by
  obtain ⟨oc, od, kVv, doc, pm, an, cdv, ct, osl, rfl, lkM, hcM⟩ := L.FS.ex
  refine gfnC F scNr (fun vs H Q E h => ?_) (fun A outer s H vs Q E hr hgd h => ?_)
  · obtain ⟨p, d, u, q, rfl, _⟩ := h
    rfl
  · obtain ⟨p, d, u, q, rfl, hp, ht, pl, gq, qu, k⟩ := h
    have hr1 : Room 1 _ := hr.mono (by decide)
    have hr2 : Room 2 _ := hr.mono (by decide)
    have hr3 : Room 3 _ := hr.mono (by decide)
    have hr7 : Room 7 _ := hr.mono (by decide)
    have hr8 : Room 8 _ := hr.mono (by decide)
    have hu := hr.units
    have hu6 : (A.deeper (PyProof.Rows.envOfC "_law_names_right" (defScope sNr) s.heap.objs.size f (.ref c))).units + 66 < cLine := by
      have z := hr.un
      omega
    refine ⟨_, PSs.nox (pss_cons (ps_asg (pe_tup (pa_cons (pe_call L.GC hr1 (by rfl) L.eC.g L.eC.k L.bC .nil pass0 (pa_cons (pv 1) pa_nil)) (pa_cons (pe_call L.GW hr1 (by rfl) L.eW.g L.eW.k L.bW .nil pass0 (pa_cons (pv 1) pa_nil)) pa_nil)))
        (pg_tup rfl (pgs_cons (pg_name (i := 3) scNr.nd rfl (Or.inr rfl)) (pgs_cons (pg_name (i := 4) scNr.nd rfl (Or.inl rfl)) pgs_nil))))
      (pss_cons (ps_set (i := 5) scNr.nd rfl (Or.inr rfl) (pe_call L.GI hr3 (by rfl) L.eI.g L.eI.k L.bI .nil pass0 (pa_cons (pv 0) (pa_cons (pv 3) pa_nil))))
      (pss_cons (ps_set (i := 6) scNr.nd rfl (Or.inr rfl) (pe_ownM L.ZR TQ0.cl hr8 pass0 (pv 2) (pa_cons (pv 5) pa_nil)))
      (C8.pss_cut (ps_if (pt_cmpR (op_neW hu6) (LamX.pe_lamcall (T := T) (k := 7) (t := fun E => tVar 6) (by rfl) L.eS.g L.eS.k lkM hcM L.bS scAsked rfl (Or.inl rfl) (asked_gives J TQ0.cl Zc0 Za hr3) TB rfl ((hT _).mpr rfl) (fun q hq e => (hT _).mp (by rw [← e]; exact hq)) hr (LamX.lamS_by (by show LamX.lamSB (defScope sNr) _ = true; decide +kernel)) rfl (fun _ _ _ _ _ => rfl)
          (by exact fun A2 o2 s2 H2 E2 f2 c2 hr4 => pv 6)) (pe_call L.GR hr2 (by rfl) L.eR.g L.eR.k L.bR .nil pass0 (pa_cons (pv 1) (pa_cons (pv 5) pa_nil))) (nomark _)) (pss_one (ps_ret pe_bl)) pss_nil)
      (pss_cons (ps_set (i := 7) scNr.nd rfl (Or.inl rfl) (pe_callTy (call_dictP rfl) (by rfl) L.dct (by decide +kernel) (pa_cons (pe_lc (own := [("_law_column", 14)]) (g := gName 14) (tt := tYes) (te := tTup (tCons (tDGet (tVar 5) (tVar 14)) (tCons (tVar 14) tNil))) rfl scNr.nd (pi_list (pv 3))
          (blkOk_by (own := [("_law_column", 14)]) (N := nNr) (sc := defScope sNr) (by decide +kernel)) (fun _ _ _ _ _ => pg_name (i := 14) scNr.nd rfl (Or.inl rfl)) (fun _ _ _ _ _ => pts_nil)
          (fun _ _ _ _ _ => pe_tup (pa_cons (pe_dget (lt1 hu) (pv 5) (pv 14) (fun _ _ => rfl)) (pa_cons (pv 14) pa_nil)))) pa_nil)))
      (C8.pss_cut (ps_if (PW.pt (pw_or (pt_cmpR (op_neQ ZE hr2) (pe_ownM L.ZR TQ0.cl hr8 pass0 (pv 6) (pa_cons (pv 7) pa_nil)) (pv 2) (nomark _)) (pw_or1 (pt_cmpR (op_neQ ZE hr2) (pe_ownM L.ZF TQ0.cl hr7 pass0 (pv 2) (pa_cons (pv 5) pa_nil)) (pv 6) (nomark _))))) (pss_one (ps_ret pe_bl)) pss_nil)
      (C8.pss_cut (ps_set (i := 8) scNr.nd rfl (Or.inr rfl) (pe_callTy (call_dictP rfl) (by rfl) L.dct (by decide +kernel) (pa_cons (pe_listZip rfl (pa_cons (pe_callTy (call_listD rfl) (by rfl) L.list (by decide +kernel) (pa_cons (pv 4) pa_nil))
          (pa_cons (pe_slice sl_list (pe_call L.GM hr2 (by rfl) L.eM.g L.eM.k L.bM .nil pass0 (pa_cons (pv 0) (pa_cons (pe_lst (pa_cons pe_str (pa_cons pe_str (pa_cons pe_str (pa_cons pe_str (pa_cons pe_str (pa_cons pe_str (pa_cons pe_str (pa_cons pe_str pa_nil))))))))) pa_nil)))
            po_none (po_some (pe_callB call_lenD (by rfl) L.len PySem.boot_len (pa_cons (pv 4) pa_nil)))) pa_nil)) (by rfl) L.list (by decide +kernel) (by rfl) L.zip) pa_nil)))
      (pss_cons (ps_set (i := 9) scNr.nd rfl (Or.inl rfl) (pe_call L.GQ hr1 (by rfl) L.eQ.g L.eQ.k L.bQ .nil pass0 (pa_cons
          (pe_lc (own := [("_law_table", 12), ("_law_some", 13)]) (g := gTup K 2 (gCons (gName 12) (gCons (gName 13) gNil))) (tt := tYes) (te := tTup (tCons (tDGet (tVar 8) (tVar 12)) (tCons (tVar 13) tNil))) rfl scNr.nd
            (pi_list (pe_dget (lt1 hu) (pv 1) pe_str (fun _ _ => rfl))) (blkOk_by (own := [("_law_table", 12), ("_law_some", 13)]) (N := nNr) (sc := defScope sNr) (by decide +kernel))
            (fun _ _ _ _ _ => pg_tup rfl (pgs_cons (pg_name (i := 12) scNr.nd rfl (Or.inl rfl)) (pgs_cons (pg_name (i := 13) scNr.nd rfl (Or.inl rfl)) pgs_nil))) (fun _ _ _ _ _ => pts_nil)
            (fun _ _ _ _ _ => pe_tup (pa_cons (pe_dget (lt1 hu) (pv 8) (pv 12) (fun _ _ => rfl)) (pa_cons (pv 13) pa_nil)))) (pa_cons (pe_dget (lt1 hu) (pv 1) pe_str (fun _ _ => rfl)) pa_nil))))
      (pss_cons (ps_set (i := 10) scNr.nd rfl (Or.inr rfl) (pe_ownM L.ZT TQ0.cl hr7 pass0 (pv 2) (pa_cons (pv 8) pa_nil)))
      (pss_cons (ps_set (i := 7) scNr.nd rfl (Or.inl rfl) (pe_callTy (call_dictP rfl) (by rfl) L.dct (by decide +kernel) (pa_cons (pe_lock (pe_lc (own := [("_law_table", 12)]) (wi := iKeys (tVar 8)) (g := gName 12) (tt := tYes) (te := tTup (tCons (tDGet (tVar 8) (tVar 12)) (tCons (tVar 12) tNil))) rfl scNr.nd (pi_keys (pv 8))
          (blkOk_by (own := [("_law_table", 12)]) (N := nNr) (sc := defScope sNr) (by decide +kernel)) (fun _ _ _ _ _ => pg_name (i := 12) scNr.nd rfl (Or.inl rfl)) (fun _ _ _ _ _ => pts_nil)
          (fun _ _ _ _ _ => pe_tup (pa_cons (pe_dget (lt1 hu) (pv 8) (pv 12) (fun _ _ => rfl)) (pa_cons (pv 12) pa_nil))))) pa_nil)))
      (C8.pss_cut (ps_if (PW.pt (pw_or (pt_cmpR (op_neW hu6) (LamX.pe_lamcall (T := T) (k := 7) (t := fun E => tVar 10) (by rfl) L.eS.g L.eS.k lkM hcM L.bS scAsked rfl (Or.inl rfl) (asked_gives J TQ0.cl Zc0 Za hr3) TB rfl ((hT _).mpr rfl) (fun q hq e => (hT _).mp (by rw [← e]; exact hq)) hr (LamX.lamS_by (by show LamX.lamSB (defScope sNr) _ = true; decide +kernel)) rfl (fun _ _ _ _ _ => rfl)
          (by exact fun A2 o2 s2 H2 E2 f2 c2 hr4 => pv 10)) (pv 9) (nomark _)) (pw_or1 (pt_cmpR (op_neQ ZE hr2) (pe_ownM L.ZT TQ0.cl hr7 pass0 (pv 10) (pa_cons (pv 7) pa_nil)) (pv 2) (nomark _))))) (pss_one (ps_ret pe_bl)) pss_nil)
      (C8.pss_cut (ps_set (i := 11) scNr.nd rfl (Or.inr rfl) (pe_callTy (call_dictP rfl) (by rfl) L.dct (by decide +kernel) (pa_cons (pe_lc (own := [("_law_column", 14)]) (g := gName 14) (tt := tYes) rfl scNr.nd (pi_list (pv 3))
          (blkOk_by (own := [("_law_column", 14)]) (N := nNr) (sc := defScope sNr) (by decide +kernel)) (fun _ _ _ _ _ => pg_name (i := 14) scNr.nd rfl (Or.inl rfl)) (fun _ _ _ _ _ => pts_nil)
          (fun _ _ _ _ _ => pe_tup (pa_cons (pv 14) (pa_cons (pe_call L.GP hr2 (by rfl) L.eP.g L.eP.k L.bP .nil pass0 (pa_cons (pv 0) (pa_cons (pe_op op_cat (pv 3) (pe_lst (pa_cons pe_str pa_nil))) pa_nil))) pa_nil)))) pa_nil)))
      (pss_cons (ps_set (i := 9) scNr.nd rfl (Or.inl rfl) (pe_call L.GR hr2 (by rfl) L.eR.g L.eR.k L.bR .nil pass0 (pa_cons (pv 1) (pa_cons (pv 11) pa_nil))))
      (pss_cons (ps_dput (lt1 hu) (pv 9) pe_str (pe_call L.GF hr1 (by rfl) L.eF.g L.eF.k L.bF .nil pass0 (pa_cons (pe_dget (lt1 hu) (pv 9) pe_str (fun _ _ => rfl)) pa_nil)) (by rfl))
      (pss_one (ps_ret (pe_cmpR (op_eqW hu6) (LamX.pe_lamcall (T := T) (k := 7) (t := fun E => tMeth C "folded" (spFolded K C) [] E (tVar 2) (tCons (tVar 11) tNil)) (by rfl) L.eS.g L.eS.k lkM hcM L.bS scAsked rfl (Or.inl rfl) (asked_gives J TQ0.cl Zc0 Za hr3) TB rfl ((hT _).mpr rfl) (fun q hq e => (hT _).mp (by rw [← e]; exact hq)) hr (LamX.lamS_by (by show LamX.lamSB (defScope sNr) _ = true; decide +kernel)) rfl (fun _ _ _ _ _ => rfl)
          (by exact fun A2 o2 s2 H2 E2 f2 c2 hr4 => pe_ownM L.ZF TQ0.cl hr4 pass0 (pv 2) (pa_cons (pv 11) pa_nil))) (pv 9) (nomark _)))))))))))))))))), ?_⟩
    have g := gq.wf
    obtain ⟨lc, la, ts, B⟩ := id pl
    have B : PlB H d lc la ts q := B
    have q8 := g.c.few
    have lt : ts.length = q.cls.length := B.2.2.1.len
    refine ⟨_, rfl, d, q, rfl, pl, g.pre.c.toSmol, fun ns cl H1 ic s1 hcl ecl => ?_⟩
    refine ⟨_, rfl, d, q, rfl, pl.same s1, by omega, fun wd kvs H2 ls s2 hwd ewd ek lnd lm => ?_⟩
    refine ⟨by show 2 ≤ sizeLine; decide, fun t0 ht0 => ?_⟩
    refine ⟨t0, _, rfl, SqT.of upd_same, rfl, _, _, rfl, _, _, rfl, rfl, ?_⟩
    have s3 := K0.Same.new (.tup [V.ref cl, V.ref wd]) ht0
    have s13 := K0.Same.tr s1 (K0.Same.tr s2 s3)
    have hp3 := hp.on s13
    have n8 : ns.length ≤ 8 := g.c.ncols ic
    have ecl3 := s3 _ _ (s2 _ _ ecl)
    have ncp := dice_ne hp3 ecl3 (no_int ns)
    have lsl : kvs.length = ls.length := by
      have z := congrArg List.length ek
      rw [List.length_map, List.length_map] at z
      exact z
    have l8 : ls.length ≤ 8 := by
      have z := nodup_le ls (q.cls.map (·.1)) lnd fun k hk => by
        obtain ⟨c, hc, e⟩ := (lm k).mp hk
        exact List.mem_map.mpr ⟨c, hc, e⟩
      rw [List.length_map] at z
      omega
    refine ⟨_, rfl, _, rfl, p, cl, ns, rfl, hp3, ncp, ecl3, ic.2.1, n8, fun nd f H4 k4 dc4 hnd nd4 inj nam => ?_⟩
    have kt4 : Kt p H H4 := (kds s13).tr (Kt.of k4)
    have tb4 := tabs_kd (tabs_same ht s13) hp3 k4
    have qu4 := (qu.kt hp kt4).o
    obtain ⟨tc, ta, to, td, ts', ns', U⟩ := id qu4
    obtain ⟨dx, ep⟩ := U.ob
    refine ⟨_, rfl, u, dx, _, rfl, ep, qFs_no (by decide +kernel) (by decide +kernel) (by decide +kernel) (by decide +kernel), _, rfl, u, nd, q, ns, f, rfl, qu4, g, ic, nd4, nam, inj, fun fr H5 cs' s5 srt qo5 => ?_⟩
    have kt5 := kt4.tr (kds s5)
    have dc5 := dc4.on s5
    have tb5 := tabs_same tb4 s5
    have ecl5 := s5 _ _ (k4 _ _ ncp ecl3)
    have ewd5 := s5 _ _ (k4 _ _ (hp3.no (s3 _ _ ewd) fun _ z => by cases z) (s3 _ _ ewd))
    have nd5 := nd4.same s5
    have B5 := B.kt hp kt5
    have pl5 := pl.kt hp kt5
    have qu5 := (qu.kt hp kt5).o
    have icq : ∀ k, k ∈ colsIn q.cls ↔ k ∈ ns := fun k => (ic.2.2 k).symm
    have injA : ∀ x ∈ q.asked, ∀ y ∈ q.asked, f x = f y → x = y := fun x hx y hy => inj x ((icq x).mp (g.ask x hx)) y ((icq y).mp (g.ask y hy))
    have foA := fo_inj g.nd injA
    have wf' : WfQ ⟨cs', q.asked.map f⟩ := by
      have z := g.fold (f := f) (fun k hk => nam k ((icq k).mp hk)) srt
      rw [foA] at z
      exact z
    have nsn : ∀ k ∈ ns, nameS k = true := fun k hk => by
      obtain ⟨c, hc, h⟩ := colsIn_mem.mp ((icq k).mpr hk)
      exact g.c.nam c hc k h
    clear s1 s2 s3 s13 hp3 ecl ecl3 hcl hwd ewd ht0 k4 dc4 hnd nd4 U ep dx qu4 kt4 tb4 s5 ncp
    refine ⟨fun σ H' => (∃ x7 x8 x9 x10 x11 x12 x13 x14 : Option V, σ = [some (.ref p), some (.ref d), some (.ref u), some (.ref cl), some (.ref wd), some (.ref nd), some (.ref fr), x7, x8, x9, x10, x11, x12, x13, x14]) ∧ Kt p H5 H' ∧ DiceAt H' p ∧ LamX.Tabs T H', ?_, ?_⟩
    · refine ⟨tb5, fun H6 e6 tb6 => ?_⟩
      have kt6 : Kt p H5 H6 := Kt.ex e6
      refine ⟨_, rfl, fr, _, rfl, qo5.kt dc5 kt6, fun d7 H7 s7 hd7 pl7 => ?_⟩
      have kt7 := kt6.tr (kds s7)
      refine ⟨_, rfl, _, rfl, d, nd, q, ns, f, rfl, pl5.kt dc5 kt7, g, fun k => (icq k).symm, nd5.kt dc5 kt7, fun d8 H8 cs8 s8 hd8 pl8 srt8 => ?_⟩
      obtain rfl := srt8.one srt
      exact .inr ⟨d7, d8, _, rfl, rfl, pl7.same s8, pl8, wf', _, rfl, if_neg_of rfl ⟨⟨_, _, _, _, _, _, _, _, rfl⟩, kt7.tr (kds s8), (dc5.ex e6).on (K0.Same.tr s7 s8), tabs_same tb6 (K0.Same.tr s7 s8)⟩⟩
    rintro σ H6 ⟨⟨x7, x8, x9, x10, x11, x12, x13, x14, rfl⟩, kt6, dc6, tb6⟩
    have ecl6 := lstS_kt dc5 kt6 ecl5
    have nd6 := nd5.kt dc5 kt6
    refine ⟨_, rfl, cl, rfl, ⟨_, SqL.of ecl6⟩, fun D hD => lc_made (walk_list (K := K) (a := cl) (xs := ns.map V.str)) (fun i y H' => ∃ t x, y = V.ref t ∧ ns[i]? = some x ∧ t ≠ D ∧ H' t = some (.tup [.str (f x), .str (id x)]))
      (fun i y H1 H2 ⟨t, c, e1, e2, n1, h1⟩ kd => ⟨t, c, e1, e2, n1, kd _ _ n1 h1⟩) (by rw [List.length_map, sizeLine_eq]; omega) hD (fun H2 s2 => SqL.of (s2 _ _ ecl6)) ?_ gName_mono ?_⟩
    · rintro i x H2 H3 hi s2 ⟨acc, hacc⟩ ⟨rfl, hx⟩
      rw [List.getElem?_map] at hx
      obtain ⟨z, hz, rfl⟩ := Option.map_eq_some_iff.mp hx
      exact ⟨rfl, fun Q' hq => ⟨_, rfl, _, rfl, nd, _, rfl, (nd6.same s2).get (List.mem_of_getElem? hz), _, rfl, by show 2 ≤ sizeLine; decide, fun m hm => hq _ _ (K0.Same.new _ hm) ⟨m, z, rfl, hz, (fun e => by rw [e, hacc] at hm; cases hm), upd_same⟩⟩⟩
    intro H2 acc s2 hD2 hlen hR
    rw [List.length_map] at hlen
    obtain ⟨ts2, rfl, pr2⟩ := refs_of (P := fun t x => H2 t = some (.tup [.str (f x), .str (id x)])) acc ns hlen fun i y hy => by
      obtain ⟨t, x, e1, e2, _, e3⟩ := hR i y hy
      exact ⟨t, x, e1, e2, e3⟩
    refine ⟨D, ts2, ns.map (pairK f id), rfl, SqL.of hD2, paired_kv pr2, fun bk hbk => ?_⟩
    rw [merge_pairs (map_nodup ic.2.1 inj)]
    have nb := namd_inv (H := upd H2 bk (.dK (ns.map (pairK f id)))) ic.2.1 inj upd_same
    have s6 := K0.Same.tr s2 (K0.Same.new (.dK (ns.map (pairK f id))) hbk)
    clear hD2 pr2 hR hlen
    generalize upd H2 bk (.dK (ns.map (pairK f id))) = H7 at nb s6 ⊢
    have kt7 := kt6.tr (kds s6)
    have dc7 := dc6.on s6
    have tb7 := tabs_same tb6 s6
    clear kt6 dc6 tb6 ecl6 nd6 s2 hbk
    have hb : ∀ k ∈ colsIn q.cls, inv f ns (f k) = k := fun k hk => inv_at inj ((icq k).mp hk)
    refine ⟨fun σ H' => (∃ x7 x8 x9 x10 x11 x12 x13 x14 : Option V, σ = [some (.ref p), some (.ref d), some (.ref u), some (.ref cl), some (.ref wd), some (.ref nd), some (.ref fr), x7, x8, x9, x10, x11, x12, x13, x14]) ∧ Kt p H5 H' ∧ DiceAt H' p ∧ LamX.Tabs T H', ?_, ?_⟩
    · have qoF := qo5.kt dc5 kt7
      obtain ⟨tc, ta, to, td, tsF, nsF, U⟩ := id qoF
      obtain ⟨dx, ep⟩ := U.ob
      have mF : ∀ k, k ∈ ns.map f ↔ k ∈ nsF := fun k => by
        rw [U.col.2.2 k]
        refine Iff.trans ?_ (cols_map srt k).symm
        rw [List.mem_map]
        exact ⟨fun ⟨x, hx, e⟩ => ⟨x, (icq x).mpr hx, e⟩, fun ⟨x, hx, e⟩ => ⟨x, (icq x).mp hx, e⟩⟩
      refine ⟨_, rfl, fr, dx, _, rfl, ep, qFs_no (by decide +kernel) (by decide +kernel) (by decide +kernel) (by decide +kernel), _, rfl, fr, bk, _, nsF, inv f ns, rfl, qoF, wf', U.col, nb.to mF, fun k hk => ?_, fun x hx y hy => inv_inj inj x ((mF x).mpr hx) y ((mF y).mpr hy), fun r1 H8 cs2 s8 srt2 qo8 => ?_⟩
      · obtain ⟨x, hx, rfl⟩ := List.mem_map.mp ((mF k).mpr hk)
        rw [inv_at inj hx]
        exact nsn x hx
      have eq8 : (⟨cs2, (q.asked.map f).map (inv f ns)⟩ : PQ) = q := by
        rw [back_cols g hb srt srt2, back_asked g hb]
      rw [eq8] at qo8
      have kt8 := kt7.tr (kds s8)
      have qu8 := qu5.kt dc5 kt8
      refine ⟨_, rfl, ne_qq ZE.nf qo8 g qu8 g ?_⟩
      rw [eqQ_rfl]
      refine ⟨_, rfl, if_neg_of rfl ?_⟩
      obtain ⟨tc, ta, to, td, tsU, nsU, U2⟩ := id qu8
      obtain ⟨dx2, ep2⟩ := U2.ob
      refine ⟨_, rfl, u, dx2, _, rfl, ep2, qFs_no (by decide +kernel) (by decide +kernel) (by decide +kernel) (by decide +kernel), _, rfl, u, nd, q, ns, f, rfl, qu8, g, ic, nd5.kt dc5 kt8, nam, fun r2 H9 cs3 s9 srt3 qo9 => ?_⟩
      obtain rfl := srt3.one srt
      rw [foA] at qo9
      have kt9 := kt8.tr (kds s9)
      refine ⟨_, rfl, ne_qq ZE.nf qo9 wf' (qo5.kt dc5 kt9) wf' ?_⟩
      rw [eqQ_rfl]
      exact ⟨_, rfl, if_neg_of rfl ⟨⟨_, _, _, _, _, _, _, _, rfl⟩, kt9, dc7.on (K0.Same.tr s8 s9), tabs_same tb7 (K0.Same.tr s8 s9)⟩⟩
    clear nb kt7 dc7 tb7 s6
    rintro σ H7 ⟨⟨x7, x8, x9, x10, x11, x12, x13, x14, rfl⟩, kt7, dc7, tb7⟩
    /- other tables -/
    refine ⟨fun σ H' => ∃ (tb : Addr) (h : Str → Str), (∃ x7 x9 x10 x11 x12 x13 x14 : Option V, σ = [some (.ref p), some (.ref d), some (.ref u), some (.ref cl), some (.ref wd), some (.ref nd), some (.ref fr), x7, some (.ref tb), x9, x10, x11, x12, x13, x14]) ∧ Kt p H5 H' ∧ DiceAt H' p ∧ LamX.Tabs T H' ∧ NamD H' tb ls h ∧ Inj h ls ∧ ∀ k ∈ ls, nameS (h k) = true, ?_, ?_⟩
    · have ewd7 := kt_no kt7 dc5 ewd5 (fun _ z => by cases z) dK_t
      refine ⟨_, rfl, wd, kvs, rfl, .inl ewd7, fun l hl => ?_⟩
      have s8 := K0.Same.new (.lst (kvs.map fun kv => kV kv.1)) hl
      refine ⟨_, rfl, by show 8 ≤ sizeLine; decide, fun m hm => ?_⟩
      have s9 := K0.Same.new (.lst (tabs8n.map V.str)) hm
      have dc9 := (dc7.on s8).on s9
      refine ⟨p, m, _, rfl, dc9, (dc7.on s8).off hm, upd_same, by decide, fun ys l3 H10 pm hl3 el3 k10 dc10 => ?_⟩
      obtain ⟨zs, rfl, pz⟩ := perm_strs (ns := tabs8n) pm
      obtain ⟨g1, g2, g3⟩ := tabs8n_ok
      have zd : zs.Nodup := pz.nodup_iff.mpr g1
      have zl : zs.length = 8 := pz.length_eq.trans g2
      have ewd10 := k10 _ _ (dc9.no (s9 _ _ (s8 _ _ ewd7)) fun _ z => by cases z) (s9 _ _ (s8 _ _ ewd7))
      have el8 : upd H7 l (.lst (kvs.map fun kv => kV kv.1)) l = some (.lst (ls.map V.str)) := by rw [← ek]; exact upd_same
      have el10 := k10 _ _ (dice_ne dc9 (s9 _ _ el8) (no_int ls)) (s9 _ _ el8)
      refine ⟨_, rfl, wd, kvs, rfl, ewd10, ?_⟩
      refine ⟨(kvs.length : Nat), rfl, l3, _, rfl, SqL.of el3, fun l4 hl4 => ?_⟩
      have ecut : cutV (zs.map V.str) none (some ((kvs.length : Nat) : Int)) = (zs.take ls.length).map V.str := by
        rw [cutV_take zs _ (by omega) (by omega), lsl]
        rfl
      rw [ecut] at *
      have s11 := K0.Same.new (.lst ((zs.take ls.length).map V.str)) hl4
      have tl : (zs.take ls.length).length = ls.length := by rw [List.length_take, zl]; omega
      refine ⟨l, l4, ls.map V.str, (zs.take ls.length).map V.str, rfl, SqL.of (s11 _ _ el10), SqL.of upd_same, fun H12 pp ts12 s12 hp12 ep12 pr12 => ?_⟩
      have ez : (ls.map V.str).zip ((zs.take ls.length).map V.str) = ls.map fun x => (V.str x, V.str (atF ls (zs.take ls.length) x)) := by
        rw [List.zip_map, zip_at lnd (by omega), List.map_map]
        rfl
      rw [ez] at pr12
      have pr := paired_unmap pr12
      refine ⟨pp, ts12, ls.map (pairK id (atF ls (zs.take ls.length))), rfl, SqL.of ep12, paired_kv (kf := id) (vf := atF ls (zs.take ls.length)) pr, fun tb htb => ?_⟩
      rw [merge_pairs (by rw [List.map_id]; exact lnd)]
      have sN := K0.Same.new (.dK (ls.map (pairK id (atF ls (zs.take ls.length))))) htb
      have sA : Same H10 _ := K0.Same.tr s11 (K0.Same.tr (show Same _ H12 from s12) sN)
      exact ⟨tb, atF ls (zs.take ls.length), ⟨_, _, _, _, _, _, _, rfl⟩, kt7.tr ((kds (K0.Same.tr s8 s9)).tr ((Kt.of k10).tr (kds sA))), dc10.on sA, tabs_same (tabs_kd (tabs_same tb7 (K0.Same.tr s8 s9)) dc9 k10) sA, namd_pairs lnd upd_same, atF_inj lnd (by omega) (zd.sublist (List.take_sublist _ _)),
        fun x hx => g3 _ (pz.mem_iff.mp (List.mem_of_mem_take (atF_mem lnd (by omega) hx)))⟩
    clear kt7 dc7 tb7
    rintro σ H8 ⟨tb, h, ⟨x7, x9, x10, x11, x12, x13, x14, rfl⟩, kt8, dc8, tb8, nt8, injh, namh⟩
    have B8 := B5.kt dc5 kt8
    have hls : ∀ c ∈ q.cls, c.1 ∈ ls := fun c hc => (lm c.1).mpr ⟨c, hc, rfl⟩
    refine ⟨_, rfl, d, V.ref lc, rfl, DGet.k (k := Sum.inr "clauses") B8.1, lc, rfl, ⟨_, SqL.of B8.2.1⟩, fun D hD => lc_made (walk_list (K := K) (a := lc) (xs := ts.map V.ref)) (fun i y H' => ∃ t t2 c, y = V.ref t ∧ (q.cls.map (tabC h))[i]? = some c ∧ t ≠ D ∧ t2 ≠ D ∧ H' t = some (.tup [.str c.1, .ref t2]) ∧ H' t2 = some (.tup (c.2.map V.str)))
      (fun i y H1 H2 ⟨t, t2, c, e1, e2, n1, n2, h1, h2⟩ kd => ⟨t, t2, c, e1, e2, n1, n2, kd _ _ n1 h1, kd _ _ n2 h2⟩) (by rw [List.length_map, sizeLine_eq]; omega) hD (fun H1 s1 => SqL.of (s1 _ _ B8.2.1)) ?_ gPair_mono ?_⟩
    · rintro i x H4 H5' hi s4 ⟨acc, hacc⟩ ⟨rfl, hxi⟩
      have hi' : i < ts.length := by rwa [List.length_map] at hi
      obtain ⟨c, hc, t2, g1, g2⟩ := B8.2.2.1.at_ i hi'
      have ex : x = V.ref ts[i] := by
        rw [List.getElem?_map, List.getElem?_eq_getElem hi'] at hxi
        exact (Option.some.inj hxi).symm
      subst ex
      have hcm : c ∈ q.cls := List.mem_of_getElem? hc
      have g1 := s4 _ _ g1
      have g2 := s4 _ _ g2
      exact ⟨ts[i], _, rfl, SqT.of g1, rfl, _, _, rfl, _, _, rfl, rfl, rfl, fun Q2 hQ2 => ⟨_, rfl, _, rfl, tb, _, rfl, (nt8.same s4).get (hls c hcm), _, rfl, by show 2 ≤ sizeLine; decide, fun m hm => hQ2 _ _ (K0.Same.new _ hm)
        ⟨m, t2, tabC h c, rfl, by rw [List.getElem?_map, hc]; rfl, (fun e => by rw [e, hacc] at hm; cases hm), (fun e => by rw [e, hacc] at g2; cases g2), upd_same, (K0.Same.new _ hm) _ _ g2⟩⟩⟩
    rintro H9 acc s9 hD9 hlen hR
    rw [List.length_map] at hlen
    obtain ⟨N, rfl, n2, n3⟩ := rows_made acc (q.cls.map (tabC h)) (by rw [List.length_map]; omega) hR
    rw [List.length_map] at hlen
    obtain ⟨cs2, c1, c2⟩ := rows_cls N n3
    have ec : cs2 = q.cls.map (tabC h) := map_keyC (c2.trans n2)
    subst ec
    have eN : N.map (fun m => V.ref m.1) = (N.map (·.1)).map V.ref := by rw [List.map_map]; rfl
    have B9 := B8.same s9
    refine ⟨_, rfl, d, V.ref la, rfl, DGet.k (k := Sum.inr "asked") B9.1, D, la, N.map (·.1), q.cls.map (tabC h), q.asked, rfl, by rw [← eN]; exact hD9, c1.ins, B9.2.2.2, by rw [List.length_map]; omega, fun csd H10 dd s10 hdd pld up mem => ?_⟩
    have s810 := K0.Same.tr s9 s10
    have kt10 := kt8.tr (kds s810)
    have nt10 := nt8.same s810
    have dc10 := dc8.on s810
    have tb10 := tabs_same tb8 s810
    clear B8 B9 c1 c2 n2 n3 hR hD9 s9 s10 hlen eN kt8 dc8 tb8 nt8 hD
    have qu10 := qu5.kt dc5 kt10
    obtain ⟨tc, ta, to, td, tsU, nsU, U⟩ := id qu10
    obtain ⟨dx, ep⟩ := U.ob
    refine ⟨_, rfl, u, dx, _, rfl, ep, qFs_no (by decide +kernel) (by decide +kernel) (by decide +kernel) (by decide +kernel), _, rfl, u, tb, q, ls, h, rfl, qu10, g, lm, nt10, namh, injh, fun ot H11 cst s11 srtt qot => ?_⟩
    obtain rfl := (Srt.mk up mem).one srtt
    have wfT : WfQ ⟨csd, q.asked⟩ := g.retab (fun c hc => namh _ (hls c hc)) (fun c hc c' hc' => injh _ (hls c hc) _ (hls c' hc')) srtt
    have nt11 := nt10.same s11
    have pld11 := pld.same s11
    have kt11 := kt10.tr (kds s11)
    have dc11 := dc10.on s11
    have tb11 := tabs_same tb10 s11
    clear qu10 U ep dx kt10 dc10 tb10 nt10 pld up mem s11 s810 hdd
    obtain ⟨ps, p1, p2, p3⟩ := nt11.at_
    have pl8 : ps.length ≤ 8 := by
      have z := nodup_le ps ls p1 fun k hk => (p2 k).mp hk
      omega
    have injp : Inj h ps := fun x hx y hy => injh x ((p2 x).mp hx) y ((p2 y).mp hy)
    refine ⟨tb, _, p3, True.intro, fun od => ⟨_, rfl, tb, od, rfl, .inl ⟨_, upd_same, fun D hD => lc_made (walk_keys (d := tb) (o := od) (kvs := ps.map (fKv h))) (fun i y H' => ∃ t x, y = V.ref t ∧ ps[i]? = some x ∧ t ≠ D ∧ H' t = some (.tup [.str (h x), .str (id x)]))
      (fun i y H1 H2 ⟨t, c, e1, e2, n1, h1⟩ kd => ⟨t, c, e1, e2, n1, kd _ _ n1 h1⟩) (by rw [List.length_map, sizeLine_eq]; omega) hD (fun H2 s2 => s2 _ _ upd_same) ?_ gName_mono ?_⟩⟩⟩
    · rintro i x H2 H3 hi s2 ⟨acc, hacc⟩ ⟨rfl, kk, vv, hk, rfl⟩
      rw [List.getElem?_map] at hk
      obtain ⟨y, hy, e⟩ := Option.map_eq_some_iff.mp hk
      obtain ⟨rfl, rfl⟩ := Prod.mk.inj e
      have ev := valV_fKv (f := h) (List.mem_of_getElem? hy)
      exact ⟨rfl, fun Q' hq => ⟨_, rfl, _, rfl, tb, _, rfl, .inl ⟨_, Sum.inr y, .inr ⟨od, s2 _ _ upd_same⟩, rfl, ev.symm⟩, _, rfl, by show 2 ≤ sizeLine; decide, fun m hm => hq _ _ (K0.Same.new _ hm) ⟨m, y, rfl, hy, (fun e => by rw [e, hacc] at hm; cases hm), upd_same⟩⟩⟩
    intro H2 acc s2 hD2 hlen hR
    rw [List.length_map] at hlen
    obtain ⟨ts2, rfl, pr2⟩ := refs_of (P := fun t x => H2 t = some (.tup [.str (h x), .str (id x)])) acc ps hlen fun i y hy => by
      obtain ⟨t, x, e1, e2, _, e3⟩ := hR i y hy
      exact ⟨t, x, e1, e2, e3⟩
    have etb := s2 _ _ (upd_same (H := H11) (a := tb) (o := .frz od (.dK (ps.map (fKv h)))))
    refine ⟨etb, ?_⟩
    have us := unlock_same p3 s2
    have nDt : D ≠ tb := fun e => by rw [e, etb] at hD2; cases hD2
    have pr3 : Paired (fun (t : Addr) (x : Str) => upd H2 tb (.dK (ps.map (fKv h))) t = some (.tup [.str (h x), .str (id x)])) ts2 ps := paired_imp3 (fun t x e => by rw [upd_ne fun z => by rw [z, etb] at e; cases e]; exact e) pr2
    refine ⟨D, ts2, ps.map (pairK h id), rfl, SqL.of (by rw [upd_ne nDt]; exact hD2), paired_kv pr3, fun bk hbk => ?_⟩
    rw [merge_pairs (map_nodup p1 injp)]
    have nb := namd_inv (H := upd (upd H2 tb (.dK (ps.map (fKv h)))) bk (.dK (ps.map (pairK h id)))) p1 injp upd_same
    have s12 := K0.Same.tr us (K0.Same.new (.dK (ps.map (pairK h id))) hbk)
    clear hD2 pr2 pr3 hR hlen us etb hD nDt s2
    generalize upd (upd H2 tb (.dK (ps.map (fKv h)))) bk (.dK (ps.map (pairK h id))) = H12 at nb s12 ⊢
    have kt12 := kt11.tr (kds s12)
    have dc12 := dc11.on s12
    have tb12 := tabs_same tb11 s12
    have qot12 := qot.same s12
    have pld12 := pld11.same s12
    clear hbk kt11 dc11 tb11 qot pld11 nt11
    refine ⟨fun σ H' => (∃ x7 x8 x9 x10 x11 x12 x13 x14 : Option V, σ = [some (.ref p), some (.ref d), some (.ref u), some (.ref cl), some (.ref wd), some (.ref nd), some (.ref fr), x7, x8, x9, x10, x11, x12, x13, x14]) ∧ Kt p H5 H' ∧ DiceAt H' p ∧ LamX.Tabs T H', ?_, ?_⟩
    · refine ⟨tb12, fun H13 e13 tb13 => ?_⟩
      have kt13 : Kt p H12 H13 := Kt.ex e13
      refine ⟨_, rfl, ot, _, rfl, qot12.kt dc12 kt13, fun d14 H14 s14 hd14 pl14 => ?_⟩
      have kt14 := kt13.tr (kds s14)
      refine ⟨_, rfl, .inr ⟨d14, dd, _, rfl, rfl, pl14, pld12.kt dc12 kt14, wfT, _, rfl, if_neg_of rfl ?_⟩⟩
      have qo14 := qot12.kt dc12 kt14
      obtain ⟨tc, ta, to, td, tsU, nsU, U⟩ := id qo14
      obtain ⟨dx, ep⟩ := U.ob
      have nt : ∀ k, k ∈ ps.map h ↔ ∃ c ∈ csd, c.1 = k := fun k => by
        rw [List.mem_map]
        constructor
        · rintro ⟨x, hx, rfl⟩
          obtain ⟨c, hc, rfl⟩ := (lm x).mp ((p2 x).mp hx)
          exact ⟨tabC h c, (srtt.mem _).mpr (List.mem_map.mpr ⟨c, hc, rfl⟩), rfl⟩
        · rintro ⟨c, hc, rfl⟩
          obtain ⟨e, he, rfl⟩ := List.mem_map.mp ((srtt.mem c).mp hc)
          exact ⟨e.1, (p2 _).mpr (hls e he), rfl⟩
      refine ⟨_, rfl, ot, dx, _, rfl, ep, qFs_no (by decide +kernel) (by decide +kernel) (by decide +kernel) (by decide +kernel), _, rfl, ot, bk, _, ps.map h, inv h ps, rfl, qo14, wfT, nt, nb.kt dc12 kt14, fun k hk => ?_, inv_inj injp, fun r1 H15 cs3 s15 srt3 qo15 => ?_⟩
      · obtain ⟨x, hx, rfl⟩ := List.mem_map.mp hk
        rw [inv_at injp hx]
        obtain ⟨c, hc, rfl⟩ := (lm x).mp ((p2 x).mp hx)
        exact g.c.tab c hc
      have e15 : (⟨cs3, q.asked⟩ : PQ) = q := by rw [back_tabs g (fun c hc => inv_at injp ((p2 _).mpr (hls c hc))) srtt srt3]
      rw [e15] at qo15
      have kt15 := kt12.tr (kt14.tr (kds s15))
      refine ⟨_, rfl, ne_qq ZE.nf qo15 g (qu5.kt dc5 kt15) g ?_⟩
      rw [eqQ_rfl]
      exact ⟨_, rfl, if_neg_of rfl ⟨⟨_, _, _, _, _, _, _, _, rfl⟩, kt15, ((dc12.ex e13).on s14).on s15, tabs_same (tabs_same tb13 s14) s15⟩⟩
    clear kt12 dc12 tb12 qot12 pld12 nb s12 srtt wfT p3 injp pl8 p1 p2
    rintro σ H7 ⟨⟨y7, y8, y9, y10, y11, y12, y13, y14, rfl⟩, kt7, dc7, tb7⟩
    /- folded columns -/
    refine ⟨fun σ H' => ∃ (im : Addr) (f2 : Str → Str), (∃ x7 x8 x9 x10 x12 x13 x14 : Option V, σ = [some (.ref p), some (.ref d), some (.ref u), some (.ref cl), some (.ref wd), some (.ref nd), some (.ref fr), x7, x8, x9, x10, some (.ref im), x12, x13, x14]) ∧ Kt p H5 H' ∧ DiceAt H' p ∧ LamX.Tabs T H' ∧ NamD H' im ns f2 ∧ ∀ k ∈ ns, nameS (f2 k) = true, ?_, ?_⟩
    · have ecl7 := lstS_kt dc5 kt7 ecl5
      have ncp7 := dice_ne dc7 ecl7 (no_int ns)
      refine ⟨_, rfl, cl, rfl, ⟨_, SqL.of ecl7⟩, fun D hD => lc_rollR (p := p) (walk_list (K := K) (a := cl) (xs := ns.map V.str)) (fun i y H' => ∃ t x z, y = V.ref t ∧ ns[i]? = some x ∧ nameS z = true ∧ t ≠ p ∧ t ≠ D ∧ H' t = some (.tup [.str x, .str z]))
        (fun i y H1 H2 ⟨t, x, z, e1, e2, e3, n1, n2, h1⟩ kd => ⟨t, x, z, e1, e2, e3, n1, n2, kd _ _ n1 n2 h1⟩) (by rw [List.length_map, sizeLine_eq]; omega) hD dc7 (fun H2 kd2 _ => SqL.of (kd2 _ _ ncp7 ecl7)) ?_ gName_mono ?_⟩
      · rintro i x H2 H3 hi kd2 dc2 ⟨acc, hacc⟩ ⟨rfl, hx⟩
        rw [List.getElem?_map] at hx
        obtain ⟨z, hz, rfl⟩ := Option.map_eq_some_iff.mp hx
        refine ⟨rfl, fun Q' hq => ?_⟩
        have ecl2 := kd2 _ _ ncp7 ecl7
        refine ⟨_, rfl, _, rfl, _, rfl, by show 1 ≤ sizeLine; decide, fun m hm => ?_⟩
        have sm := K0.Same.new (.lst [V.str "new"]) hm
        refine ⟨cl, m, ns.map V.str, [V.str "new"], rfl, rfl, sm _ _ ecl2, upd_same, ?_, fun l hl => ?_⟩
        · rw [List.length_map, sizeLine_eq]
          simp only [List.length_cons, List.length_nil]
          omega
        have sl := K0.Same.new (.lst (ns.map V.str ++ [V.str "new"])) hl
        have dcl := (dc2.on sm).on sl
        refine ⟨p, l, _, rfl, dcl, (dc2.on sm).off hl, upd_same, ?_, ?_, fun v H4 hv k4 dc4 => ?_⟩
        · rw [List.length_append]
          simp only [List.length_cons, List.length_nil]
          omega
        · rw [List.length_append, List.length_map]
          simp only [List.length_cons, List.length_nil]
          omega
        obtain ⟨w2, rfl, hw⟩ : ∃ w2 : Str, v = .str w2 ∧ nameS w2 = true := by
          rcases List.mem_append.mp hv with hv | hv
          · obtain ⟨w2, hw, rfl⟩ := List.mem_map.mp hv
            exact ⟨w2, rfl, nsn w2 hw⟩
          · exact ⟨"new", List.mem_singleton.mp hv, by decide +kernel⟩
        have kd4 : Kd p H3 H4 := (Kd.of (K0.Same.tr sm sl)).tr k4
        have hDp : D ≠ p := dc7.off hD
        refine ⟨by show 2 ≤ sizeLine; decide, fun t ht => hq _ _ (kd4.tr (Kd.of (K0.Same.new _ ht))) (dc4.on (K0.Same.new _ ht)) ⟨t, z, w2, rfl, hz, hw, dc4.off ht, fun e => ?_, upd_same⟩⟩
        have hacc4 := kd4 _ _ hDp hacc
        rw [e, hacc4] at ht
        cases ht
      · intro H2 acc kd2 dc2 hD2 hlen hR
        rw [List.length_map] at hlen
        obtain ⟨ts2, zs, rfl, zl, zg, pr2⟩ := refs_of2 (P := fun t x z => H2 t = some (.tup [.str x, .str z])) (G := fun z => nameS z = true) acc ns hlen fun i y hy => by
          obtain ⟨t, x, z, e1, e2, e3, _, _, e4⟩ := hR i y hy
          exact ⟨t, x, z, e1, e2, e3, e4⟩
        rw [zip_at ic.2.1 (by omega)] at pr2
        have pr := paired_unmap pr2
        refine ⟨D, ts2, ns.map (pairK id (atF ns zs)), rfl, SqL.of hD2, paired_kv (kf := id) (vf := atF ns zs) pr, fun im him => ?_⟩
        rw [merge_pairs (by rw [List.map_id]; exact ic.2.1)]
        have sN := K0.Same.new (.dK (ns.map (pairK id (atF ns zs)))) him
        exact ⟨im, atF ns zs, ⟨_, _, _, _, _, _, _, rfl⟩, kt7.tr ((Kt.of kd2).tr (kds sN)), dc2.on sN, tabs_same (tabs_kd tb7 dc7 kd2) sN, namd_pairs ic.2.1 upd_same, fun x hx => zg _ (atF_mem ic.2.1 (by omega) hx)⟩
    clear kt7 dc7 tb7
    rintro σ H7 ⟨im, f2, ⟨y7, y8, y9, y10, y12, y13, y14, rfl⟩, kt7, dc7, tb7, ni7, nam2⟩
    refine ⟨_, rfl, _, rfl, d, im, q, ns, f2, rfl, pl5.kt dc5 kt7, g, fun k => (icq k).symm, ni7, fun d8 H8 cs8 s8 hd8 pl8 srt8 => ?_⟩
    obtain ⟨lc8, la8, ts8, h1, h2, h3, h4⟩ := id pl8
    refine ⟨_, rfl, d8, V.ref la8, rfl, DGet.k (k := Sum.inr "asked") h1, la8, q.asked.map f2, rfl, SqL.of h4, by rw [List.length_map]; have := g.few; omega, fun l9 H9 s9 hl9 el9 => ?_⟩
    obtain ⟨kvs9, g1, g2, g3⟩ := (pl8.same s9).ask el9
    refine ⟨_, rfl, d8, _, rfl, DPut.k (k := Sum.inr "asked") g1 g2, ?_⟩
    have s10 : Same H7 (upd H9 d8 (.dK (putK kvs9 (Sum.inr "asked") (.ref l9)))) := fun b o e => by
      rw [upd_ne (ne_of_none e hd8)]
      exact s9 _ _ (s8 _ _ e)
    generalize upd H9 d8 (.dK (putK kvs9 (Sum.inr "asked") (.ref l9))) = H10 at g3 s10 ⊢
    clear g1 g2 h1 h2 h3 h4 pl8 s8 s9 el9 hl9
    have wfF := g.fold (f := f2) (fun k hk => nam2 k ((icq k).mp hk)) srt8
    refine ⟨tabs_same tb7 s10, fun H11 e11 tb11 => ?_⟩
    have dc10 := dc7.on s10
    have kt11 : Kt p H10 H11 := Kt.ex e11
    have ktA := (kt7.tr (kds s10)).tr kt11
    have qu11 := qu5.kt dc5 ktA
    obtain ⟨tc, ta, to, td, tsU, nsU, U⟩ := id qu11
    obtain ⟨dx, ep⟩ := U.ob
    refine ⟨_, rfl, u, dx, _, rfl, ep, qFs_no (by decide +kernel) (by decide +kernel) (by decide +kernel) (by decide +kernel), _, rfl, u, im, q, ns, f2, rfl, qu11, g, ic, (ni7.same s10).kt dc10 kt11, nam2, fun r H12 cs12 s12 srt12 qo12 => ?_⟩
    obtain rfl := srt12.one srt8
    refine ⟨r, _, rfl, qo12, fun d13 H13 s13 hd13 pl13 => ?_⟩
    have sZ := K0.Same.tr s12 s13
    exact ⟨_, rfl, .inr ⟨d13, d8, _, rfl, rfl, pl13, (g3.kt dc10 kt11).same sZ, wfF, k _ (kt5.tr (ktA.tr (kds sZ))) ((dc10.ex e11).on sZ) (tabs_same tb11 sZ)⟩⟩
end
end K0

/-! ## Y23 -/
set_option maxRecDepth 100000
set_option maxHeartbeats 8000000
namespace K0
open PySem L2 NS RZ
/-! ### right -/
theorem fo_id {a : List Str} (nd : a.Nodup) : fo a = a := by
  have z := fo_inj (f := id) nd fun x _ y _ e => e
  rwa [List.map_id] at z
theorem fo_more (a : List Str) : ∀ (b : List Str), (∀ x ∈ b, x ∈ a) → fo (a ++ b) = fo a := by
  intro b
  induction b using snoc_ind with
  | h0 => intro _; rw [List.append_nil]
  | hs b x ih =>
    intro h
    rw [← List.append_assoc, fo_snoc, if_pos (List.mem_append_left _ (h x (List.mem_append_right _ List.mem_cons_self))), List.append_nil]
    exact ih fun y hy => h y (List.mem_append_left _ hy)
theorem cutV_all (xs : List Str) (r : Int) (h0 : 0 ≤ r) (h1 : (xs.length : Int) ≤ r) : cutV (xs.map V.str) none (some r) = xs.map V.str := by
  unfold cutV
  obtain ⟨n, rfl⟩ := Int.eq_ofNat_of_zero_le h0
  rw [HT.sIx_none, List.drop_zero, Nat.sub_zero]
  have e : HT.sIx (xs.map V.str).length (xs.map V.str).length (some (n : Int)) = (xs.map V.str).length := by
    refine (HT.sIx_nat _ _ n).trans ?_
    rw [List.length_map]
    omega
  exact (congrArg (fun k => (xs.map V.str).take k) e).trans List.take_length
theorem fo_twice {a : List Str} (nd : a.Nodup) : fo (a ++ a) = a := by rw [fo_more a a fun _ h => h, fo_id nd]
structure AddQ (P : Program) (w : World) (K : PySem.W.Frag) (mg : Str → Option Value) (base : Heap) (C CQ : Addr) : Prop where
  ex : ∃ g, PySem.W.selfFirst K C = true ∧ PySem.W.findIn K (.ref C) "__add__" = some (some (.ref g)) ∧ PySem.W.isFn K (.ref g) = true ∧ FnR P w K mg base (L2.CX P w) 7 g (spAdd K C CQ)
theorem op_addQ {X : Cx} {C CQ : Addr} {E : XK} (Z : AddQ X.prog X.w X.K X.mg X.base C CQ) (hr : Room 7 X.A) (hx : Passes (L2.CX X.prog X.w) X E) : OpR X (binaryOp .Add) (rAddOwn C (spAdd X.K C CQ) E) := by
  obtain ⟨g, h1, h2, h3, F⟩ := Z.ex
  exact op_addOwn h1 h2 h3 F hr hx
/-- every call answers True and leaves all but the dice and the tables -/
def spRun (T : List (Addr × Str)) : Sp := fun vs H Q _ => ∃ (p : Addr), vs = [.ref p] ∧ DiceAt H p ∧ LamX.Tabs T H ∧ ∀ H', Kt p H H' → DiceAt H' p → LamX.Tabs T H' → Q (.bl true) H'
abbrev sRt : Stmt := top 54
abbrev nRt : List Str := ["_law_dice_here", "_law_plain", "_law_other", "_law_question_here", "_law_some", "_law_both", "_law_due"]
theorem scRt : FnScope nRt ["_law_dice_here"] (defScope sRt) := ⟨rfl, rfl, rfl, by decide +kernel, rfl, by decide +kernel, by decide +kernel⟩
structure LR2 (P : Program) (w : World) (K : PySem.W.Frag) (mg : Str → Option Value) (base : Heap) (C : Addr) (T : List (Addr × Str)) (fA fM fR fN fX fC fO fS fE fF fK : Addr) (fdA fdM fdR fdN fdX fdC fdO fdS fdE fdF fdK : FuncData) : Prop where
  eA : Gl K mg "_law_any" fA
  GA : FnOk P w K mg base CX0 5 fA fdA ["_law_dice_here", "_law_most"] spAny
  bA : Binds K fdA ["_law_dice_here", "_law_most"] []
  eM : Gl K mg "_law_made" fM
  GM : FnOk P w K mg base CX0 7 fM fdM ["_law_plain"] (spMadeZ K C)
  bM : Binds K fdM ["_law_plain"] []
  eR : Gl K mg "_law_clauses_right" fR
  GR : FnG P w K mg base CX0 10 fR fdR ["_law_dice_here", "_law_plain", "_law_question_here"] (spRight3 K C T)
  bR : Binds K fdR ["_law_dice_here", "_law_plain", "_law_question_here"] []
  eN : Gl K mg "_law_names_right" fN
  GN : FnG P w K mg base CX0 10 fN fdN ["_law_dice_here", "_law_plain", "_law_question_here"] (spRight3 K C T)
  bN : Binds K fdN ["_law_dice_here", "_law_plain", "_law_question_here"] []
  eX : Gl K mg "_law_mixed" fX
  GX : FnOk P w K mg base CX0 2 fX fdX ["_law_dice_here", "_law_items"] spMixed
  bX : Binds K fdX ["_law_dice_here", "_law_items"] []
  eC : Gl K mg "_law_columns" fC
  GC : FnOk P w K mg base CX0 1 fC fdC ["_law_plain"] spCols2
  bC : Binds K fdC ["_law_plain"] []
  eO : Gl K mg "_law_roll" fO
  GO : FnOk P w K mg base CX0 1 fO fdO ["_law_dice_here", "_law_total"] spRoll
  bO : Binds K fdO ["_law_dice_here", "_law_total"] []
  eS : Gl K mg "_law_asked" fS
  FS : Fun K "_law_asked" "_law_asked" sAsked fS fdS
  bS : Binds K fdS ["_law_call"] []
  eE : Gl K mg "_law_asking_some" fE
  GE : FnOk P w K mg base CX0 9 fE fdE ["_law_question_here", "_law_columns_here"] (spAsome K C)
  bE : Binds K fdE ["_law_question_here", "_law_columns_here"] []
  eF : Gl K mg "_law_first_ones" fF
  GF : FnOk P w K mg base CX0 1 fF fdF ["_law_items"] (spLFo K)
  bF : Binds K fdF ["_law_items"] []
  eK : Gl K mg "_law_checked" fK
  GK : FnOk P w K mg base CX0 2 fK fdK ["_law_clauses", "_law_asked_here"] spChk
  bK : Binds K fdK ["_law_clauses", "_law_asked_here"] []
section
variable {P : Program} {w : World} {K : PySem.W.Frag} {mg : Str → Option Value} {base : Heap} {C CC CQ fA fM fR fN fX fC fO fS fE fF fK : Addr} {fdA fdM fdR fdN fdX fdC fdO fdS fdE fdF fdK : FuncData} {T : List (Addr × Str)}
theorem ok_rt {f c PT : Addr} {fd : FuncData} (F : FunC K "_law_right" "_law_right" sRt f fd c) (L : LR2 P w K mg base C T fA fM fR fN fX fC fO fS fE fF fK fdA fdM fdR fdN fdX fdC fdO fdS fdE fdF fdK) (J : TAs K mg CC CQ) (TQ0 : TQu K C) (ZE : EqQ P w K mg base C) (ZA : AddQ P w K mg base C CQ)
    (Zc0 : Getter P w K mg base C 1 "clauses" (getSp C "_clauses")) (Za : Getter P w K mg base C 1 "asked" (getSp C "_asked"))
    (TB : LamX.TabB base mg c PT) (hT : ∀ q, (PT, q) ∈ T ↔ q = ("_law_right.<locals>.<lambda>" : Str)) : FnG P w K mg base CX0 12 f fd ["_law_dice_here"] (spRun T) := by
  obtain ⟨oc, od, kVv, doc, pm, an, cdv, ct, osl, rfl, lkM, hcM⟩ := L.FS.ex
  refine gfnC F scRt (fun vs H Q E h => ?_) (fun A outer s H vs Q E hr hgd h => ?_)
  · obtain ⟨p, rfl, _⟩ := h
    rfl
  · obtain ⟨p, rfl, hp, ht, k⟩ := h
    have hr1 : Room 1 _ := hr.mono (by decide)
    have hr2 : Room 2 _ := hr.mono (by decide)
    have hr3 : Room 3 _ := hr.mono (by decide)
    have hr5 : Room 5 _ := hr.mono (by decide)
    have hr7 : Room 7 _ := hr.mono (by decide)
    have hr10 : Room 10 _ := hr.mono (by decide)
    have hu := hr.units
    have hu6 : (A.deeper (PyProof.Rows.envOfC "_law_right" (defScope sRt) s.heap.objs.size f (.ref c))).units + 66 < cLine := by
      have z := hr.un
      omega
    refine ⟨_, PSs.nox (pss_cons (ps_asg (pe_tup (pa_cons (pe_call L.GA hr5 (by rfl) L.eA.g L.eA.k L.bA .nil pass0 (pa_cons (pv 0) (pa_cons pe_int pa_nil))) (pa_cons (pe_call L.GA hr5 (by rfl) L.eA.g L.eA.k L.bA .nil pass0 (pa_cons (pv 0) (pa_cons pe_int pa_nil))) pa_nil))) (pg_tup rfl (pgs_cons (pg_name (i := 1) scRt.nd rfl (Or.inl rfl)) (pgs_cons (pg_name (i := 2) scRt.nd rfl (Or.inr rfl)) pgs_nil))))
      (pss_cons (ps_set (i := 3) scRt.nd rfl (Or.inr rfl) (pe_call L.GM hr7 (by rfl) L.eM.g L.eM.k L.bM .nil pass0 (pa_cons (pv 1) pa_nil)))
      (C8.pss_cut (ps_if (PW.pt (pw_or (pt_not (pt_val (pe_callG L.GR hr10 hgd (by rfl) L.eR.g L.eR.k L.bR .nil pass0 (pa_cons (pv 0) (pa_cons (pv 1) (pa_cons (pv 3) pa_nil)))))) (pw_or1 (pt_not (pt_val (pe_callG L.GN hr10 hgd (by rfl) L.eN.g L.eN.k L.bN .nil pass0 (pa_cons (pv 0) (pa_cons (pv 1) (pa_cons (pv 3) pa_nil))))))))) (pss_one (ps_ret pe_bl)) pss_nil)
      (pss_cons (ps_set (i := 4) scRt.nd rfl (Or.inr rfl) (pe_slice sl_list (pe_call L.GX hr2 (by rfl) L.eX.g L.eX.k L.bX .nil pass0 (pa_cons (pv 0) (pa_cons (pe_call L.GC hr1 (by rfl) L.eC.g L.eC.k L.bC .nil pass0 (pa_cons (pv 1) pa_nil)) pa_nil))) po_none (po_some (pe_call L.GO hr1 (by rfl) L.eO.g L.eO.k L.bO .nil pass0 (pa_cons (pv 0) (pa_cons pe_int pa_nil))))))
      (C8.pss_cut (ps_if (pt_cmpR (op_neW hu6) (LamX.pe_lamcall (T := T) (k := 9) (t := fun E => tCall (spAsome K C) [] E (tCons (tVar 3) (tCons (tVar 4) tNil))) (by rfl) L.eS.g L.eS.k lkM hcM L.bS scAsked rfl (Or.inl rfl) (asked_gives J TQ0.cl Zc0 Za hr3) TB rfl ((hT _).mpr rfl) (fun q hq e => (hT _).mp (by rw [← e]; exact hq)) hr (LamX.lamS_by (by show LamX.lamSB (defScope sRt) _ = true; decide +kernel)) rfl (fun _ _ _ _ _ => rfl)
          (by exact fun A2 o2 s2 H2 E2 f2 c2 hr4 => pe_call L.GE hr4 (by rfl) L.eE.g L.eE.k L.bE .nil pass0 (pa_cons (pv 3) (pa_cons (pv 4) pa_nil)))) (pe_disp (pps_cons pe_str (pe_dget (lt1 hu) (pv 1) pe_str (fun _ _ => rfl)) (pps_cons pe_str (pv 4) pps_nil)) rfl rfl (by decide) (by decide)) (nomark _)) (pss_one (ps_ret pe_bl)) pss_nil)
      (pss_cons (ps_set (i := 5) scRt.nd rfl (Or.inl rfl) (pe_call L.GF hr1 (by rfl) L.eF.g L.eF.k L.bF .nil pass0 (pa_cons (pe_op op_cat (pe_dget (lt1 hu) (pv 1) pe_str (fun _ _ => rfl)) (pe_dget (lt1 hu) (pv 2) pe_str (fun _ _ => rfl))) pa_nil)))
      (pss_cons (ps_set (i := 6) scRt.nd rfl (Or.inl rfl) (pe_call L.GK hr2 (by rfl) L.eK.g L.eK.k L.bK .nil pass0 (pa_cons (pe_op op_cat (pe_dget (lt1 hu) (pv 1) pe_str (fun _ _ => rfl)) (pe_dget (lt1 hu) (pv 2) pe_str (fun _ _ => rfl))) (pa_cons (pv 5) pa_nil))))
      (C8.pss_cut (ps_if (pt_cmpR (op_neW hu6) (LamX.pe_lamcall (T := T) (k := 9) (t := fun E => tOp (rAddOwn C (spAdd K C CQ) E) (tVar 3) (tCall (spMadeZ K C) [] E (tCons (tVar 2) tNil))) (by rfl) L.eS.g L.eS.k lkM hcM L.bS scAsked rfl (Or.inl rfl) (asked_gives J TQ0.cl Zc0 Za hr3) TB rfl ((hT _).mpr rfl) (fun q hq e => (hT _).mp (by rw [← e]; exact hq)) hr (LamX.lamS_by (by show LamX.lamSB (defScope sRt) _ = true; decide +kernel)) rfl (fun _ _ _ _ _ => rfl)
          (by exact fun A2 o2 s2 H2 E2 f2 c2 hr4 => pe_op (op_addQ ZA (hr4.mono (by decide)) (passes_call (takes_of rfl rfl rfl rfl) (fun _ _ _ _ h => h))) (pv 3) (pe_call L.GM (hr4.mono (by decide)) (by rfl) L.eM.g L.eM.k L.bM .nil pass0 (pa_cons (pv 2) pa_nil)))) (pv 6) (nomark _)) (pss_one (ps_ret pe_bl)) pss_nil)
      (pss_one (ps_ret (pe_and (pe_cmpR (op_eqQ ZE hr1) (pe_op (op_addQ (E := fun _ _ _ => False) ZA hr7 passF) (pv 3) (pv 3)) (pv 3) (nomark _)) (pe_one (pe_cmpR (op_eqQ ZE hr1) (pv 3) (pe_call L.GM hr7 (by rfl) L.eM.g L.eM.k L.bM .nil pass0 (pa_cons (pv 1) pa_nil)) (nomark _)))))))))))))), ?_⟩
    refine ⟨_, rfl, p, 4, rfl, hp, by decide, by decide, fun q H1 d g1 k1 dc1 hd1 pl1 => ?_⟩
    refine ⟨_, rfl, p, 3, rfl, dc1, by decide, by decide, fun q2 H2 d2 g2 k2 dc2 hd2 pl2 => ?_⟩
    have pl12 := pl1.kd dc1 k2
    refine ⟨by show 2 ≤ sizeLine; decide, fun t0 ht0 => ?_⟩
    refine ⟨t0, _, rfl, SqT.of upd_same, rfl, _, _, rfl, _, _, rfl, rfl, ?_⟩
    have s3 := K0.Same.new (.tup [V.ref d, V.ref d2]) ht0
    have g := g1.wf
    have gg := g2.wf
    refine ⟨_, rfl, d, q, rfl, pl12.same s3, g, fun u H4 s4 hu4 qu4 => ?_⟩
    have s34 := K0.Same.tr s3 s4
    have kt4 : Kt p H H4 := (Kt.of k1).tr ((Kt.of k2).tr (kds s34))
    have dc4 := dc2.on s34
    have tb4 : LamX.Tabs T H4 := tabs_same (tabs_kd (tabs_kd ht hp k1) dc1 k2) s34
    have pl4 := pl12.same s34
    have po4 := pl2.same s34
    obtain ⟨lc, la, ts, B4⟩ := id pl4
    have B4 : PlB H4 d lc la ts q := B4
    obtain ⟨lc2, la2, ts2, O4⟩ := id po4
    have O4 : PlB H4 d2 lc2 la2 ts2 q2 := O4
    have q8 := g1.cls.few
    have q28 := g2.cls.few
    have lt : ts.length = q.cls.length := B4.2.2.1.len
    have lt2 : ts2.length = q2.cls.length := O4.2.2.1.len
    clear k1 k2 dc1 dc2 hd1 hd2 pl1 pl2 pl12 ht0 s3 s4 s34 hu4
    refine ⟨fun σ H' => (∃ x4 x5 x6 : Option V, σ = [some (.ref p), some (.ref d), some (.ref d2), some (.ref u), x4, x5, x6]) ∧ Kt p H4 H' ∧ DiceAt H' p ∧ LamX.Tabs T H', ?_, ?_⟩
    · refine ⟨_, rfl, _, rfl, _, rfl, p, d, u, q, rfl, dc4, tb4, pl4, g1, qu4, fun H5 kt5 dc5 tb5 => ⟨_, rfl, if_neg_of rfl ?_⟩⟩
      exact ⟨_, rfl, _, rfl, _, rfl, p, d, u, q, rfl, dc5, tb5, pl4.kt dc4 kt5, g1, qu4.kt dc4 kt5, fun H6 kt6 dc6 tb6 => ⟨_, rfl, if_neg_of rfl ⟨⟨_, _, _, rfl⟩, kt5.tr kt6, dc6, tb6⟩⟩⟩
    rintro σ H5 ⟨⟨x4, x5, x6, rfl⟩, kt5, dc5, tb5⟩
    /- some columns -/
    refine ⟨_, rfl, _, rfl, d, q, rfl, pl4.kt dc4 kt5, g.pre.c.toSmol, fun ns cl H6 ic s6 hcl ecl => ?_⟩
    have dc6 := dc5.on s6
    have n8 : ns.length ≤ 8 := g.c.ncols ic
    refine ⟨p, cl, _, rfl, dc6, dice_ne dc6 ecl (no_int ns), ecl, by rw [List.length_map]; omega, fun ys l H7 pm hl el k7 dc7 => ?_⟩
    obtain ⟨zs, rfl, pz⟩ := perm_strs pm
    refine ⟨_, rfl, p, 4, rfl, dc7, by decide, by decide, fun r H8 r0 r4 k8 dc8 => ?_⟩
    have el8 := k8 _ _ (dice_ne dc7 el (no_int zs)) el
    refine ⟨r, rfl, l, _, rfl, SqL.of el8, fun l2 hl2 => ?_⟩
    have ecut : ∃ as : List Str, cutV (zs.map V.str) none (some r) = as.map V.str ∧ AskG q as := by
      by_cases hz : r ≤ zs.length
      · refine ⟨zs.take r.toNat, cutV_take zs r r0 hz, (pz.nodup_iff.mpr ic.2.1).sublist (List.take_sublist _ _), fun k hk => (ic.2.2 k).mp (pz.mem_iff.mp (List.mem_of_mem_take hk)), ?_⟩
        rw [List.length_take]
        omega
      · refine ⟨zs, cutV_all zs r r0 (by omega), pz.nodup_iff.mpr ic.2.1, fun k hk => (ic.2.2 k).mp (pz.mem_iff.mp hk), by omega⟩
    obtain ⟨as, ea, ag⟩ := ecut
    rw [ea] at *
    have s9 := K0.Same.new (.lst (as.map V.str)) hl2
    have kt9 : Kt p H4 (upd H8 l2 (.lst (as.map V.str))) := kt5.tr ((kds s6).tr ((Kt.of k7).tr ((Kt.of k8).tr (kds s9))))
    have dc9 := dc8.on s9
    have tb9 := tabs_same (tabs_kd (tabs_kd (tabs_same tb5 s6) dc6 k7) dc7 k8) s9
    have e9 : (upd H8 l2 (.lst (as.map V.str))) l2 = some (.lst (as.map V.str)) := upd_same
    generalize upd H8 l2 (.lst (as.map V.str)) = H9 at kt9 dc9 tb9 e9 ⊢
    clear kt5 dc5 tb5 s6 ecl hcl k7 dc7 el hl k8 dc8 el8 hl2 s9 dc6
    refine ⟨fun σ H' => (∃ x4 x5 x6 : Option V, σ = [some (.ref p), some (.ref d), some (.ref d2), some (.ref u), x4, x5, x6]) ∧ Kt p H4 H' ∧ DiceAt H' p ∧ LamX.Tabs T H', ?_, ?_⟩
    · refine ⟨tb9, fun H10 e10 tb10 => ?_⟩
      have kt10 : Kt p H9 H10 := Kt.ex e10
      have ktA := kt9.tr kt10
      refine ⟨_, rfl, _, rfl, u, l2, q, as, rfl, SqL.of (lstS_kt dc9 kt10 e9), (qu4.kt dc4 ktA).o, g, ag, fun r' H11 s11 qo11 => ?_⟩
      refine ⟨r', _, rfl, qo11, fun d12 H12 s12 hd12 pl12 => ?_⟩
      have ktB := ktA.tr (kds (K0.Same.tr s11 s12))
      have B12 := B4.kt dc4 ktB
      intro dd hdd
      have s13 := K0.Same.new (.dK []) hdd
      have B13 := B12.same s13
      refine ⟨_, rfl, d, V.ref lc, rfl, DGet.k (k := Sum.inr "clauses") B13.1, _, rfl, upd_same, [(Sum.inr "clauses", .ref lc), (Sum.inr "asked", .ref l2)], rfl, by show 2 ≤ 15; decide, ?_⟩
      have em : mergeK [] [((Sum.inr "clauses" : Key), V.ref lc), (Sum.inr "asked", .ref l2)] = [((Sum.inr "clauses" : Key), V.ref lc), (Sum.inr "asked", .ref l2)] := rfl
      rw [em]
      have s14 : Same H12 (upd (upd H12 dd (.dK [])) dd (.dK [((Sum.inr "clauses" : Key), V.ref lc), (Sum.inr "asked", .ref l2)])) := fun b o e => by
        rw [upd_ne (ne_of_none e hdd), upd_ne (ne_of_none e hdd)]
        exact e
      have B14 := B12.same s14
      have e14 := s14 _ _ ((K0.Same.tr s11 s12) _ _ (lstS_kt dc9 kt10 e9))
      have pd : PlA (upd (upd H12 dd (.dK [])) dd (.dK [((Sum.inr "clauses" : Key), V.ref lc), (Sum.inr "asked", .ref l2)])) dd ⟨q.cls, as⟩ := ⟨lc, l2, ts, upd_same, B14.2.1, B14.2.2.1, e14⟩
      exact .inr ⟨d12, dd, _, rfl, rfl, pl12.same s14, pd, ag.wf g, _, rfl, if_neg_of rfl ⟨⟨_, _, _, rfl⟩, ktB.tr (kds s14), ((dc9.ex e10).on (K0.Same.tr s11 s12)).on s14, tabs_same (tabs_same tb10 (K0.Same.tr s11 s12)) s14⟩⟩
    clear kt9 dc9 tb9 e9 ag ea
    rintro σ H5 ⟨⟨y4, y5, y6, rfl⟩, kt5, dc5, tb5⟩
    /- both -/
    have B5 := B4.kt dc4 kt5
    have O5 := O4.kt dc4 kt5
    have a8 := g.few
    have a28 := gg.few
    refine ⟨_, rfl, d, V.ref la, rfl, DGet.k (k := Sum.inr "asked") B5.1, _, rfl, d2, V.ref la2, rfl, DGet.k (k := Sum.inr "asked") O5.1, la, la2, q.asked.map V.str, q2.asked.map V.str, rfl, rfl, B5.2.2.2, O5.2.2.2, ?_, fun l hl => ?_⟩
    · rw [List.length_map, List.length_map, sizeLine_eq]; omega
    have s6 := K0.Same.new (.lst (q.asked.map V.str ++ q2.asked.map V.str)) hl
    refine ⟨l, q.asked ++ q2.asked, rfl, SqL.of (by rw [upd_same, List.map_append]), by rw [List.length_append]; omega, fun l3 H7 s7 hl3 el3 => ?_⟩
    have s67 := K0.Same.tr s6 s7
    have B7 := B5.same s67
    have O7 := O5.same s67
    refine ⟨_, rfl, d, V.ref lc, rfl, DGet.k (k := Sum.inr "clauses") B7.1, _, rfl, d2, V.ref lc2, rfl, DGet.k (k := Sum.inr "clauses") O7.1, lc, lc2, ts.map V.ref, ts2.map V.ref, rfl, rfl, B7.2.1, O7.2.1, ?_, fun l4 hl4 => ?_⟩
    · rw [List.length_map, List.length_map, sizeLine_eq]; omega
    have s8 := K0.Same.new (.lst (ts.map V.ref ++ ts2.map V.ref)) hl4
    obtain ⟨pool, pl8, plm⟩ := g.c.cols
    obtain ⟨pool2, pl28, plm2⟩ := gg.c.cols
    have askC : ∀ k ∈ fo (q.asked ++ q2.asked), k ∈ colsIn (q.cls ++ q2.cls) ∧ nameS k = true := fun k hk => by
      rcases List.mem_append.mp ((fo_mem _ k).mp hk) with h | h
      · obtain ⟨c, hc, h2⟩ := colsIn_mem.mp (g.ask k h)
        exact ⟨colsIn_mem.mpr ⟨c, List.mem_append_left _ hc, h2⟩, g.nam k h⟩
      · obtain ⟨c, hc, h2⟩ := colsIn_mem.mp (gg.ask k h)
        exact ⟨colsIn_mem.mpr ⟨c, List.mem_append_right _ hc, h2⟩, gg.nam k h⟩
    refine ⟨_, rfl, l4, l3, ts ++ ts2, q.cls ++ q2.cls, fo (q.asked ++ q2.asked), pool ++ pool2, rfl, by rw [upd_same, List.map_append], cls_app (B7.2.2.1.same s8) (O7.2.2.1.same s8), ?_, fun e he => ?_, ?_, fun e he k hk => ?_, s8 _ _ el3, fo_nodup _, fun k hk => (askC k hk).1, fun k hk => (askC k hk).2, ?_, fun cs' H9 v s9 srt ck => ?_⟩
    · rw [List.length_append]; omega
    · exact (List.mem_append.mp he).elim (fun h => g.clause h) (fun h => gg.clause h)
    · rw [List.length_append]; omega
    · rcases List.mem_append.mp he with h | h
      · exact List.mem_append_left _ (plm e h k hk)
      · exact List.mem_append_right _ (plm2 e h k hk)
    · have z := fo_len (q.asked ++ q2.asked)
      rw [List.length_append] at z
      omega
    have sA := K0.Same.tr s67 (K0.Same.tr s8 s9)
    have kt9 := kt5.tr (kds sA)
    have dc9 := dc5.on sA
    have tb9 := tabs_same tb5 sA
    clear kt5 dc5 tb5 B5 O5 B7 O7 s6 s7 s67 s8 s9 sA hl hl3 el3 hl4
    refine ⟨fun σ H' => (∃ x4 x5 x6 : Option V, σ = [some (.ref p), some (.ref d), some (.ref d2), some (.ref u), x4, x5, x6]) ∧ Kt p H4 H' ∧ DiceAt H' p ∧ LamX.Tabs T H', ?_, ?_⟩
    · refine ⟨tb9, fun H10 e10 tb10 => ?_⟩
      have kt10 : Kt p H9 H10 := Kt.ex e10
      have ktA := kt9.tr kt10
      have dc10 := dc9.ex e10
      refine ⟨_, rfl, _, rfl, d2, q2, rfl, po4.kt dc4 ktA, gg, fun u2 H11 s11 hu2 qu2 => ?_⟩
      have ktB := ktA.tr (kds s11)
      have qu11 := (qu4.kt dc4 ktB).o
      obtain ⟨dx, fs, eU⟩ := qu11.ins
      obtain ⟨dx2, fs2, eU2⟩ := qu2.o.ins
      have fin : ∀ v H12, Same H11 H12 → (∃ x4 x5 x6 : Option V, [some (V.ref p), some (.ref d), some (.ref d2), some (.ref u), y4, some (.ref l3), some v] = [some (V.ref p), some (.ref d), some (.ref d2), some (.ref u), x4, x5, x6]) ∧ Kt p H4 H12 ∧ DiceAt H12 p ∧ LamX.Tabs T H12 := fun v H12 s12 => ⟨⟨_, _, _, rfl⟩, ktB.tr (kds s12), (dc10.on s11).on s12, tabs_same (tabs_same tb10 s11) s12⟩
      refine ⟨u, dx, fs, u2, dx2, fs2, rfl, rfl, eU, eU2, u, u2, q, q2, rfl, qu11, g, qu2.o, gg, fun cs2 srt2 => ⟨fun wf u' H12 s12 qo12 => ⟨⟨u', rfl⟩, ?_⟩, fun no H12 s12 => .inr ⟨rfl, ?_⟩⟩⟩
      · obtain rfl := srt2.one srt
        rcases ck with ⟨_, d', rfl, pl'⟩ | ⟨no, _⟩
        · refine ⟨u', _, rfl, qo12, fun d5 H13 s13 hd5 pl5 => ⟨_, rfl, .inr ⟨d5, d', _, rfl, rfl, pl5, ((pl'.kt dc9 kt10).same s11).same (K0.Same.tr s12 s13), wf, _, rfl, if_neg_of rfl (fin _ H13 (K0.Same.tr s12 s13))⟩⟩⟩
        · exact absurd wf no
      · obtain rfl := srt2.one srt
        rcases ck with ⟨wf, _⟩ | ⟨_, rfl⟩
        · exact absurd wf no
        · exact ⟨_, rfl, .inl ⟨"question", rfl, rfl, _, rfl, if_neg_of rfl (fin _ H12 s12)⟩⟩
    clear kt9 dc9 tb9 ck srt askC
    rintro σ H5 ⟨⟨y4, y5, y6, rfl⟩, kt5, dc5, tb5⟩
    have qu5 := (qu4.kt dc4 kt5).o
    obtain ⟨dx, fs, eU⟩ := qu5.ins
    have wfS : ∀ cs', Srt cs' (q.cls ++ q.cls) → (⟨cs', fo (q.asked ++ q.asked)⟩ : PQ) = q := fun cs' s => by
      have e : cs' = q.cls := s.one ⟨g.c.up, fun c => ⟨fun h => List.mem_append_left _ h, fun h => (List.mem_append.mp h).elim id id⟩⟩
      rw [e, fo_twice g.nd]
    refine ⟨_, rfl, _, rfl, u, dx, fs, u, dx, fs, rfl, rfl, eU, eU, u, u, q, q, rfl, qu5, g, qu5, g, fun cs' srt => ⟨fun wf u' H6 s6 qo6 => ⟨⟨u', rfl⟩, ?_⟩, fun no => ?_⟩⟩
    · rw [wfS cs' srt] at qo6
      refine ⟨_, rfl, eq_qq ZE.nf qo6 g (qu5.same s6) g ?_⟩
      rw [eqQ_rfl]
      refine ⟨true, rfl, if_pos_of rfl ?_⟩
      refine ⟨_, rfl, _, rfl, d, q, rfl, (pl4.kt dc4 kt5).same s6, g, fun u3 H7 s7 hu3 qu3 => ?_⟩
      refine eq_qq ZE.nf ((qu5.same s6).same s7) g qu3.o g ?_
      rw [eqQ_rfl]
      exact k H7 (kt4.tr (kt5.tr (kds (K0.Same.tr s6 s7)))) (dc5.on (K0.Same.tr s6 s7)) (tabs_same tb5 (K0.Same.tr s6 s7))
    · rw [wfS cs' srt] at no
      exact absurd g no
end
end K0

/-! ## R8s -/
set_option maxRecDepth 100000
set_option maxHeartbeats 2000000
namespace K0
open PySem L2 NS RZ
/-! ### texts of questions -/
def spc : Str := " "
def lineC (c : CL) : Str := Txt.join spc ("clause" :: c.1 :: c.2)
def linesQ (q : PQ) : List Str := q.cls.map lineC ++ [Txt.join spc ("asked" :: q.asked)]
def textC (c : CL) : Str := ((c.1 ++ ("(" : Str)) ++ Txt.join spc c.2) ++ (")" : Str)
def textQ (q : PQ) : Str := Txt.join spc (q.asked ++ ((":" : Str) :: q.cls.map textC))
def rJoin (K : PySem.W.Frag) : V → List V → Hp → VK → Prop := fun x xs H Q => ∃ a p, ∃ ys : List Str, x = .str a ∧ xs = [.ref p] ∧ (SqL K H p (ys.map V.str) ∨ SqT K H p (ys.map V.str)) ∧
      (ys.map (·.length)).sum + ys.length * a.length ≤ 16777216 ∧ Q (.str (Txt.join a ys)) H
theorem pe_joinK {X : Cx} {K : PySem.W.Frag} {o e : Expr} {to te : TE} {apos pos : Pos} (hK : X.K = K) (ho : PE X o to) (he : PE X e te) (hs : starEach [e] X.env = [(false, eval e X.env)] := by rfl) (hbase : attributeBase o "join" X.env (eval o X.env) = eval o X.env := by rfl) (hline : (apos.endLine == pos.line) = true := by rfl) :
    PE X (.Call (.Attribute o "join" apos) [e] [] pos) (tM1 (rJoin K) to te) := by
  subst hK
  exact pe_join ho he hs hbase hline
theorem sum_le (l : List Str) (n : Nat) (h : ∀ k ∈ l, k.length ≤ n) : (l.map (·.length)).sum ≤ l.length * n := by
  induction l with
  | nil => simp
  | cons a l ih =>
    have r := ih fun k hk => h k (List.mem_cons_of_mem _ hk)
    have z := h a List.mem_cons_self
    rw [List.map_cons, List.sum_cons, List.length_cons, Nat.add_mul, Nat.one_mul]
    omega
theorem join_small {l : List Str} (n : Nat) (h : ∀ k ∈ l, k.length ≤ n) (few : l.length * (n + 1) ≤ 16777216) : (l.map (·.length)).sum + l.length * spc.length ≤ 16777216 := by
  have z := sum_le l n h
  have e : spc.length = 1 := by decide +kernel
  rw [e]
  rw [Nat.mul_add] at few
  omega
theorem join_le (l : List Str) (n : Nat) (h : ∀ k ∈ l, k.length ≤ n) : (Txt.join spc l).length ≤ l.length * (n + 1) := by
  rw [TL.join_eq]
  have z := PySem.StrLaws.join_length_le spc l
  have y := sum_le l n h
  have e : spc.length = 1 := by decide +kernel
  rw [e] at z
  rw [Nat.mul_add]
  omega
theorem WfC.line {cs : List CL} (g : WfC cs) : ∀ c ∈ cs, (("clause" : Str) :: c.1 :: c.2).length ≤ 10 ∧ ∀ k ∈ (("clause" : Str) :: c.1 :: c.2), k.length ≤ 8 := fun c hc => by
  refine ⟨by have := (g.wide c hc).2; simp only [List.length_cons]; omega, fun k hk => ?_⟩
  rcases List.mem_cons.mp hk with e | hk
  · rw [e]
    decide +kernel
  rcases List.mem_cons.mp hk with e | hk
  · rw [e]
    exact nameS_len (g.tab c hc)
  · exact nameS_len (g.nam c hc k hk)
theorem WfC.cols_join {cs : List CL} (g : WfC cs) : ∀ c ∈ cs, (Txt.join spc c.2).length ≤ 72 := fun c hc => by
  have z := join_le c.2 8 fun k hk => nameS_len (g.nam c hc k hk)
  have := (g.wide c hc).2
  have q : c.2.length * 9 ≤ 8 * 9 := Nat.mul_le_mul_right 9 this
  omega
theorem WfC.text {cs : List CL} (g : WfC cs) : ∀ c ∈ cs, (textC c).length ≤ 100 := fun c hc => by
  have z := g.cols_join c hc
  have y := nameS_len (g.tab c hc)
  unfold textC
  rw [Str.length_append, Str.length_append, Str.length_append]
  have e1 : ("(" : Str).length = 1 := by decide +kernel
  have e2 : (")" : Str).length = 1 := by decide +kernel
  rw [e1, e2]
  omega
theorem empty_app (x : Str) : Str.empty ++ x = x := by
  show (⟨#[] ++ x.cps⟩ : Str) = x
  rw [Array.empty_append]
/-! ### lines, str -/
def spLines (K : PySem.W.Frag) (C : Addr) : Sp := fun vs H Q _ => ∃ (p : Addr) (q : PQ), vs = [.ref p] ∧ QuO K C H p q ∧ WfQ q ∧ ∀ t H', Same H H' → H t = none → H' t = some (.tup ((linesQ q).map V.str)) → Q (.ref t) H'
def spStr (K : PySem.W.Frag) (C : Addr) : Sp := fun vs H Q _ => ∃ (p : Addr) (q : PQ), vs = [.ref p] ∧ QuO K C H p q ∧ WfQ q ∧ ∀ H', Same H H' → Q (.str (textQ q)) H'
def clAt (cs : List CL) (i : Nat) : CL := cs.getD i ("", [])
theorem range_cl {β : Type} (cs : List CL) (f : CL → β) : (List.range cs.length).map (fun i => f (clAt cs i)) = cs.map f := by
  apply List.ext_getElem
  · simp
  · intro i h1 h2
    simp at h1
    simp [clAt, List.getD, h1]
section
variable {P : Program} {w : World} {K : PySem.W.Frag} {mg : Str → Option Value} {base : Heap} {C : Addr}
def teText (K : PySem.W.Frag) : TE := fun σ H Q => tJs [tFmt (tVar 1), tC (.str "("), tFmt (tM1 (rJoin K) (tC (.str spc)) (tVar 2)), tC (.str ")")] Str.empty σ H fun out H1 => Q (.str out) H1
abbrev nStr : List Str := ["self", "table", "columns"]
theorem scM24 : FnScope nStr ["self"] (defScope (sQ 24)) := ⟨rfl, rfl, rfl, by decide +kernel, rfl, by decide +kernel, by decide +kernel⟩
theorem ok_mStr {f : Addr} {fd : FuncData} (F : Fun K "__str__" "Question.__str__" (sQ 24) f fd) (T : TQu K C) : FnOk P w K mg base CX0 1 f fd ["self"] (spStr K C) := by
  refine F.ok scM24 (fun vs H Q E h => ?_) (fun cdv A outer s H vs Q E hr h => ?_)
  · obtain ⟨p, q, rfl, _⟩ := h
    rfl
  · obtain ⟨p, q, rfl, ⟨tc, ta, to, td, ts, ns, U⟩, g, k⟩ := h
    obtain ⟨dx, ep⟩ := U.ob
    refine ⟨_, pss_one (ps_ret (pe_join pe_str (pe_lst (StX.pa_star (pe_fld (pv 0) rfl) (pa_cons pe_str (StX.pa_star (pe_lc (own := [("table", 1), ("columns", 2)]) (g := gTup K 2 (gCons (gName 1) (gCons (gName 2) gNil))) (tt := tYes)
        (te := teText K) rfl scM24.nd (pi_tup (pe_fld (pv 0) rfl))
        (blkOk_by (own := [("table", 1), ("columns", 2)]) (N := nStr) (sc := defScope (sQ 24)) (by decide +kernel))
        (fun _ _ _ _ _ => pg_tup rfl (pgs_cons (pg_name (i := 1) scM24.nd rfl (Or.inl rfl)) (pgs_cons (pg_name (i := 2) scM24.nd rfl (Or.inl rfl)) pgs_nil))) (fun _ _ _ _ _ => pts_nil)
        (fun _ _ _ _ _ => pe_joined (.cons (pe_fmt (pv 1)) (.cons pe_str (.cons (pe_fmt (pe_joinK rfl pe_str (pv 2))) (.cons pe_str .nil)))))) pa_nil)))))), ?_⟩
    have n1 : ts.length = q.cls.length := U.cls.len
    have c8 := g.c.few
    have a8 := g.few
    refine ⟨⟨_, rfl⟩, .ref p, rfl, p, C, dx, _, _, rfl, ep, T.cl, T.n2, qFs_asked _ _ _ _, ta, _, rfl, .inl (SqT.of U.tas), .ref p, rfl, p, C, dx, _, _, rfl, ep, T.cl, T.n1, qFs_clauses _ _ _ _, tc, rfl, ⟨_, U.tcs⟩,
      fun D hD => lc_pure (f := fun i => .str (textC (clAt q.cls i))) (walk_tup (K := K) (a := tc) (xs := ts.map V.ref)) (by rw [List.length_map, sizeLine_eq]; omega) hD (fun H1 s1 => seqT s1 U.tcs) ?_ gPair_mono ?_⟩
    · rintro i x H1 H2 hi s1 ⟨rfl, hx⟩
      rw [List.getElem?_map] at hx
      obtain ⟨t, ht, rfl⟩ := Option.map_eq_some_iff.mp hx
      obtain ⟨hti, et⟩ := List.getElem?_eq_some_iff.mp ht
      obtain ⟨c, hci, hA⟩ := U.cls.at_ i hti
      rw [et] at hA
      obtain ⟨t2, g1, g2⟩ := hA.same s1
      have cm := List.mem_of_getElem? hci
      have ec : clAt q.cls i = c := by simp [clAt, List.getD, hci]
      have y1 := nameS_len (g.c.tab c cm)
      have y2 := g.c.cols_join c cm
      have w2 := (g.c.wide c cm).2
      have e1 : ("(" : Str).length = 1 := by decide +kernel
      have e2 : (")" : Str).length = 1 := by decide +kernel
      refine ⟨t, _, rfl, SqT.of g1, rfl, _, _, rfl, _, _, rfl, rfl, rfl, fun Q' hq => ?_⟩
      refine ⟨_, rfl, .inl ⟨_, rfl, by rw [sizeLine_eq]; omega, _, rfl, by rw [empty_app, sizeLine_eq]; omega, ?_⟩⟩
      rw [empty_app]
      refine ⟨_, rfl, by rw [Str.length_append, e1, sizeLine_eq]; omega, ⟨_, rfl⟩, _, rfl, _, t2, c.2, rfl, rfl, .inr (SqT.of g2), join_small 8 (fun k hk => nameS_len (g.c.nam c cm k hk)) (by omega), .inl ⟨_, rfl, by rw [sizeLine_eq]; omega, _, rfl, ?_, _, rfl, ?_, ?_⟩⟩
      · rw [Str.length_append, Str.length_append, e1, sizeLine_eq]
        omega
      · rw [Str.length_append, Str.length_append, Str.length_append, e1, e2, sizeLine_eq]
        omega
      · have z := hq _ (Same.rfl' (H := H2))
        rw [ec] at z
        exact z
    · intro H1 s1 hD1
      rw [List.length_map, n1] at hD1
      have eD : (List.range q.cls.length).map (fun i => V.str (textC (clAt q.cls i))) = (q.cls.map textC).map V.str := by
        rw [List.map_map]
        exact range_cl q.cls fun c => V.str (textC c)
      rw [eD] at hD1
      refine ⟨D, _, rfl, .inr (SqL.of hD1), ?_, fun l hl => ?_⟩
      · simp only [List.length_cons, List.length_append, List.length_map, List.length_nil]
        rw [sizeLine_eq]
        omega
      have eL : (q.asked.map V.str ++ (V.str ":" :: ((q.cls.map textC).map V.str ++ []))) = (q.asked ++ ((":" : Str) :: q.cls.map textC)).map V.str := by
        rw [List.append_nil, List.map_append]
        rfl
      rw [eL]
      have l2 : ∀ k ∈ (q.asked ++ ((":" : Str) :: q.cls.map textC)), k.length ≤ 100 := fun k hk => by
        rcases List.mem_append.mp hk with hk | hk
        · exact Nat.le_trans (nameS_len (g.nam k hk)) (by decide)
        rcases List.mem_cons.mp hk with e | hk
        · rw [e]
          decide +kernel
        · obtain ⟨c, hc, rfl⟩ := List.mem_map.mp hk
          exact g.c.text c hc
      refine ⟨_, l, _, rfl, rfl, .inl (SqL.of upd_same), join_small 100 l2 ?_, ?_⟩
      · simp only [List.length_cons, List.length_append, List.length_map]
        omega
      · exact k _ (K0.Same.tr s1 (K0.Same.new _ hl))
end
end K0

/-! ## Y24 -/
set_option maxRecDepth 100000
set_option maxHeartbeats 8000000
namespace K0
open PySem L2 NS RZ
/-! ### the law -/
abbrev sLaw : Stmt := top 55
abbrev nLaw : List Str := ["_law_script", "_law_spot", "_law_dice_here", "_law_turn", "_law_path", "_law_ring", "_law_twice", "_law_told", "_law_way"]
theorem scLaw : FnScope nLaw ["_law_script"] (defScope sLaw) := ⟨rfl, rfl, rfl, by decide +kernel, rfl, by decide +kernel, by decide +kernel⟩
def spLaw (K : PySem.W.Frag) (T : List (Addr × Str)) : Sp := fun vs H Q _ => ∃ (a : Addr) (ns : List Int), vs = [.ref a] ∧ SqL K H a (ns.map V.int) ∧ LamX.Tabs T H ∧ ∀ H', Q (.bl true) H'
theorem Kt.seq {K : PySem.W.Frag} {H H' : Hp} {p a : Addr} {xs : List V} (k : Kt p H H') (n : a ≠ p) (h : SqL K H a xs) : SqL K H' a xs :=
  h.imp (fun r => r.imp (fun q => k _ _ n q lst_t) fun ⟨o, q⟩ => ⟨o, k _ _ n q fun ps z => by cases z⟩) id
theorem sq_keep {K : PySem.W.Frag} {H : Hp} {p a : Addr} {xs : List V} (h : SqL K H a xs) (hp : H p = none) : ∀ H', Kt p H H' → SqL K H' a xs := by
  rcases h with h | h
  · have ne : a ≠ p := by
      rcases h with q | ⟨o, q⟩
      · exact ne_of_none q hp
      · exact ne_of_none q hp
    exact fun H' k => Kt.seq k ne (.inl h)
  · exact fun H' _ => .inr h
structure StrQ (P : Program) (w : World) (K : PySem.W.Frag) (mg : Str → Option Value) (base : Heap) (C : Addr) : Prop where
  ex : ∃ g, PySem.W.findIn K (.ref C) "__str__" = some (some (.ref g)) ∧ PySem.W.isFn K (.ref g) = true ∧ FnR P w K mg base CX0 1 g (spStr K C)
theorem cr_strQ {X : Cx} {C : Addr} (Z : StrQ X.prog X.w X.K X.mg X.base C) (hr : Room 3 X.A) : CallR X (.type "str") (rStrOwn C (spStr X.K C) eN) := by
  obtain ⟨g, h1, h2, F⟩ := Z.ex
  exact call_strOwn h1 h2 F hr pass0
structure LLa (P : Program) (w : World) (K : PySem.W.Frag) (mg : Str → Option Value) (base : Heap) (C CC CQ : Addr) (T : List (Addr × Str)) (fD fR fM fW : Addr) (fdD fdR fdM fdW : FuncData) : Prop where
  len : mg "len" = none
  max : mg "max" = none
  min : mg "min" = none
  rng : mg "range" = none
  str : mg "str" = none
  eD : Gl K mg "_law_dice" fD
  GD : FnOk P w K mg base CX0 1 fD fdD ["_law_script", "_law_spot"] (spDice K)
  bD : Binds K fdD ["_law_script", "_law_spot"] []
  eR : Gl K mg "_law_right" fR
  GR : FnG P w K mg base CX0 12 fR fdR ["_law_dice_here"] (spRun T)
  bR : Binds K fdR ["_law_dice_here"] []
  eM : Gl K mg "_law_made" fM
  GM : FnOk P w K mg base CX0 7 fM fdM ["_law_plain"] (spMadeZ K C)
  bM : Binds K fdM ["_law_plain"] []
  eW : Gl K mg "_law_written" fW
  GW : FnOk P w K mg base CX0 2 fW fdW ["_law_way"] spWritten
  bW : Binds K fdW ["_law_way"] []
  cl : L2.Cls K C
  ZO : OwnM P w K mg base (L2.CX P w) C 7 "without_clause" "clause" (spWithout K C CC CQ)
  ZF : OwnM P w K mg base CX0 C 7 "folded" "names" (spFolded K C)
/-! ### what is told of the written questions -/
def abcS : List Str := ["a", "b", "c"]
theorem abc_of {cs : List CL} {l : List Str} (e : colsIn cs = l) (h1 : ∀ k ∈ l, k ∈ abcS) (h2 : ∀ k ∈ abcS, k ∈ l) : IsCols (colsIn cs) abcS := ⟨by decide +kernel, by decide +kernel, fun k => by
  rw [e]
  exact ⟨h2 k, h1 k⟩⟩
def abbcS : List Str := ["a", "b", "b", "c"]
def abcbS : List Str := ["a", "b", "c", "b"]
theorem abc0 : IsCols (colsIn (wq 0).cls) abcS := abc_of (l := abbcS) (by decide +kernel) (by decide +kernel) (by decide +kernel)
theorem abc2 : IsCols (colsIn (wq 2).cls) abcS := abc_of (l := abcbS) (by decide +kernel) (by decide +kernel) (by decide +kernel)
def cTac : CL := ("t", ["a", "c"])
def q0 : PQ := ⟨less (wq 1).cls 2, leftA (wq 1) (less (wq 1).cls 2)⟩
theorem at2w : (wq 1).cls[2]? = some cTac := by decide +kernel
theorem q0_eq : q0 = ⟨(wq 0).cls, []⟩ := by
  have e1 : less (wq 1).cls 2 = (wq 0).cls := by decide +kernel
  have e2 : leftA (wq 1) (less (wq 1).cls 2) = [] := by decide +kernel
  unfold q0
  rw [e2, e1]
theorem q0_wf : WfQ q0 := by
  rw [q0_eq]
  exact ⟨(wq_good (n := 0) (by decide)).wf.c, List.nodup_nil, fun k hk => by cases hk⟩
theorem text0 : textQ q0 = ": r(a b) s(b c)" := by
  rw [q0_eq]
  decide +kernel
def f1 (k : Str) : Str := if k = "b" then "a" else k
def f3 (k : Str) : Str := if k = "b" then "y" else "x"
def cls1 : List CL := [("r", ["a", "a"]), ("s", ["a", "c"])]
def cls3 : List CL := [("r", ["x", "y"])]
def cls33 : List CL := [("r", ["x", "y"]), ("r", ["x", "y"])]
def acS : List Str := ["a", "c"]
def xS : List Str := ["x"]
theorem srt1 : Srt cls1 ((wq 0).cls.map (mapC f1)) := by
  have e : (wq 0).cls.map (mapC f1) = cls1 := by decide +kernel
  rw [e]
  exact ⟨up_of (by decide +kernel), fun c => Iff.rfl⟩
theorem srt3 : Srt cls3 ((wq 2).cls.map (mapC f3)) := by
  have e : (wq 2).cls.map (mapC f3) = cls33 := by decide +kernel
  rw [e]
  refine ⟨up_of (by decide +kernel), fun c => ?_⟩
  unfold cls3 cls33
  simp only [List.mem_cons, List.not_mem_nil, or_false, or_self]
theorem text1 : textQ ⟨cls1, fo ((wq 0).asked.map f1)⟩ = "a c : r(a a) s(a c)" := by
  have e : fo ((wq 0).asked.map f1) = acS := by decide +kernel
  rw [e]
  decide +kernel
theorem text3 : textQ ⟨cls3, fo ((wq 2).asked.map f3)⟩ = "x : r(x y)" := by
  have e : fo ((wq 2).asked.map f3) = xS := by decide +kernel
  rw [e]
  decide +kernel
theorem srt2 : Srt (wq 1).cls ((wq 0).cls ++ (wq 1).cls) := ⟨up_of (wq_up 1 (by decide)), fun c => ⟨fun h => List.mem_append_right _ h, fun h => by
  rcases List.mem_append.mp h with h | h
  · exact (by decide +kernel : ∀ c ∈ (wq 0).cls, c ∈ (wq 1).cls) c h
  · exact h⟩⟩
theorem asked2 : fo ((wq 0).asked ++ (wq 1).asked) = acS := by decide +kernel
theorem q2_wf : WfQ ⟨(wq 1).cls, fo ((wq 0).asked ++ (wq 1).asked)⟩ := by
  rw [asked2]
  exact ⟨(wq_good (n := 1) (by decide)).wf.c, by decide +kernel, by decide +kernel⟩
theorem text2 : textQ ⟨(wq 1).cls, fo ((wq 0).asked ++ (wq 1).asked)⟩ = "a c : r(a b) s(b c) t(a c)" := by
  rw [asked2]
  decide +kernel
theorem nam1 : ∀ k ∈ abcS, nameS (f1 k) = true := by decide +kernel
theorem nam3 : ∀ k ∈ abcS, nameS (f3 k) = true := by decide +kernel
def d1K : List (Key × V) := [((Sum.inr "a" : Key), V.str "a"), (Sum.inr "b", V.str "a"), (Sum.inr "c", V.str "c")]
def d3K : List (Key × V) := [((Sum.inr "a" : Key), V.str "x"), (Sum.inr "b", V.str "y"), (Sum.inr "c", V.str "x")]
theorem namd1 {H : Hp} {d : Addr} (h : H d = some (.dK d1K)) : NamD H d abcS f1 := ⟨abcS, by decide +kernel, fun _ => Iff.rfl, h⟩
theorem namd3 {H : Hp} {d : Addr} (h : H d = some (.dK d3K)) : NamD H d abcS f3 := ⟨abcS, by decide +kernel, fun _ => Iff.rfl, h⟩
theorem QuZ.kdL {K : PySem.W.Frag} {C : Addr} {H H' : Hp} {D p : Addr} {q : PQ} {acc : List V} (h : QuZ K C H p q) (hD : H D = some (.lst acc)) (k : Kd D H H') : QuZ K C H' p q := by
  obtain ⟨tc, ta, to, td, ts, ns, U, o, e, d⟩ := h
  have no : ∀ {b : Addr} {u : HO}, H b = some u → (∀ xs, u ≠ .lst xs) → H' b = some u := fun {b u} e n => k _ _ (fun z => by
    rw [z, hD] at e
    exact n _ (Option.some.inj e).symm) e
  have nt : ∀ xs, H D ≠ some (.tup xs) := fun xs z => by rw [hD] at z; cases z
  refine ⟨tc, ta, to, td, ts, ns, ⟨U.ob.imp fun _ e => no e (fun _ z => by cases z), ?_, U.cls.kdI nt k, no U.tas (fun _ z => by cases z), no U.tos (fun _ z => by cases z), U.col, no U.tds (fun _ z => by cases z)⟩, o, no e (fun _ z => by cases z), d⟩
  exact sqT_kd nt (fun o u z => by rw [hD] at z; cases z) k U.tcs
def dueL : PyData := .list [.str ": r(a b) s(b c)", .str "a c : r(a a) s(a c)", .str "a c : r(a b) s(b c) t(a c)", .str "x : r(x y)"]
theorem dueL_sh : SeqAt.shaped dueL = true := by decide +kernel
theorem dueL_eq : PyData.eqv dueL dueL = true := by decide +kernel
section
variable {P : Program} {w : World} {K : PySem.W.Frag} {mg : Str → Option Value} {base : Heap} {C CC CQ fD fR fM fW : Addr} {fdD fdR fdM fdW : FuncData} {T : List (Addr × Str)}
theorem ok_law {f : Addr} {fd : FuncData} (F : Fun K "law" "law" sLaw f fd) (L : LLa P w K mg base C CC CQ T fD fR fM fW fdD fdR fdM fdW) (ZS : StrQ P w K mg base C) (ZA : AddQ P w K mg base C CQ) :
    FnG P w K mg base CX0 13 f fd ["_law_script"] (spLaw K T) := by
  refine gfn F scLaw (fun vs H Q E h => ?_) (fun cdv A outer s H vs Q E hr hgd h => ?_)
  · obtain ⟨a, ns, rfl, _⟩ := h
    rfl
  · obtain ⟨a, ns, rfl, hS, ht, k⟩ := h
    have hr1 : Room 1 _ := hr.mono (by decide)
    have hr2 : Room 2 _ := hr.mono (by decide)
    have hr3 : Room 3 _ := hr.mono (by decide)
    have hr7 : Room 7 _ := hr.mono (by decide)
    have hu := hr.units
    refine ⟨_, PSs.nox (C8.pss_cut (ps_for PassesOwn.never rfl (pi_range1 (by rfl) L.rng (pa_cons (pe_callB (call_max2 rfl) (by rfl) L.max (by decide +kernel) (pa_cons pe_int (pa_cons (pe_callB (call_min2 rfl) (by rfl) L.min (by decide +kernel) (pa_cons pe_int (pa_cons (pe_callB call_len_seq (by rfl) L.len PySem.boot_len (pa_cons (pv 0) pa_nil)) pa_nil))) pa_nil))) pa_nil)) (pg_name (i := 1) scLaw.nd rfl (Or.inl rfl))
        (pss_cons (ps_set (i := 2) scLaw.nd rfl (Or.inl rfl) (pe_call L.GD hr1 (by rfl) L.eD.g L.eD.k L.bD .nil pass0 (pa_cons (pv 0) (pa_cons (pv 1) pa_nil))))
        (pss_one (ps_for PassesOwn.never rfl (pi_range1 (by rfl) L.rng (pa_cons pe_int pa_nil)) (pg_name (i := 3) scLaw.nd rfl (Or.inl rfl))
          (pss_one (ps_if (pt_not (pt_val (pe_callG L.GR hr hgd (by rfl) L.eR.g L.eR.k L.bR .nil pass0 (pa_cons (pv 2) pa_nil)))) (pss_one (ps_ret pe_bl)) pss_nil))))))
      (pss_cons (ps_asg (pe_lc (own := [("_law_way", 8)]) (g := gName 8) (tt := tYes) rfl scLaw.nd (pi_range1 (by rfl) L.rng (pa_cons pe_int pa_nil)) (blkOk_by (own := [("_law_way", 8)]) (N := nLaw) (sc := defScope sLaw) (by decide +kernel)) (fun _ _ _ _ _ => pg_name (i := 8) scLaw.nd rfl (Or.inl rfl)) (fun _ _ _ _ _ => pts_nil)
          (fun _ _ _ _ _ => (pe_call L.GM hr7 (by rfl) L.eM.g L.eM.k L.bM .nil pass0 (pa_cons (pe_call L.GW hr2 (by rfl) L.eW.g L.eW.k L.bW .nil pass0 (pa_cons (pv 8) pa_nil)) pa_nil)))) (pg_lst rfl (pgs_cons (pg_name (i := 4) scLaw.nd rfl (Or.inl rfl)) (pgs_cons (pg_name (i := 5) scLaw.nd rfl (Or.inl rfl)) (pgs_cons (pg_name (i := 6) scLaw.nd rfl (Or.inl rfl)) pgs_nil)))))
      (pss_cons (ps_set (i := 7) scLaw.nd rfl (Or.inl rfl) (pe_lst (pa_cons (pe_callTy (T := "str") (cr_strQ ZS hr3) (by rfl) L.str (by decide +kernel) (pa_cons (pe_ownM (E := fun _ _ _ => False) L.ZO L.cl hr7 passF (pv 5) (pa_cons (pe_tup (pa_cons pe_str (pa_cons (pe_tup (pa_cons pe_str (pa_cons pe_str pa_nil))) pa_nil))) pa_nil)) pa_nil)) (pa_cons (pe_callTy (T := "str") (cr_strQ ZS hr3) (by rfl) L.str (by decide +kernel) (pa_cons (pe_ownM (E := eN) L.ZF L.cl hr7 pass0 (pv 4) (pa_cons (pe_disp (pps_cons pe_str pe_str (pps_cons pe_str pe_str (pps_cons pe_str pe_str pps_nil))) rfl rfl (by decide) (by decide)) pa_nil)) pa_nil)) (pa_cons (pe_callTy (T := "str") (cr_strQ ZS hr3) (by rfl) L.str (by decide +kernel) (pa_cons (pe_op (op_addQ (E := fun _ _ _ => False) ZA hr7 passF) (pv 4) (pv 5)) pa_nil)) pa_nil)))))
      (pss_cons (ps_expr (pe_bm PySem.F.plainAttrs_list PySem.F.slot_list_append PySem.F.type_list_append mt_append (pv 7) (pa_cons (pe_callTy (T := "str") (cr_strQ ZS hr3) (by rfl) L.str (by decide +kernel) (pa_cons (pe_ownM (E := eN) L.ZF L.cl hr7 pass0 (pv 6) (pa_cons (pe_disp (pps_cons pe_str pe_str (pps_cons pe_str pe_str (pps_cons pe_str pe_str pps_nil))) rfl rfl (by decide) (by decide)) pa_nil)) pa_nil)) pa_nil)))
      (pss_one (ps_ret (pe_cmpR (op_eqD hu) (pv 7) (pe_lst (pa_cons pe_str (pa_cons pe_str (pa_cons pe_str (pa_cons pe_str pa_nil))))) (nomark _)))))))), ?_⟩
    have wf : ∀ {n : Nat}, n < 10 → WfQ (wq n) := fun h => (wq_good h).wf
    refine ⟨fun σ H' => ∃ b1 b2 b3 b4 b5 b6 b7 b8 : Option V, σ = [some (.ref a), b1, b2, b3, b4, b5, b6, b7, b8], ?_, ?_⟩
    · refine ⟨_, rfl, a, _, rfl, .inl hS, _, _, rfl, _, _, rfl, ?_⟩
      refine ⟨_, rfl, ?_, ?_, for_range (n := _) (fun i σ H' => (∃ b1 b2 b3 b4 b5 b6 b7 b8 : Option V, σ = [some (.ref a), b1, b2, b3, b4, b5, b6, b7, b8]) ∧ SqL K H' a (ns.map V.int) ∧ LamX.Tabs T H') ⟨⟨_, _, _, _, _, _, _, _, rfl⟩, hS, ht⟩ ?_ ?_⟩
      · repeat' split
        all_goals omega
      · repeat' split
        all_goals omega
      · rintro i σ H1 hi ⟨⟨b1, b2, b3, b4, b5, b6, b7, b8, rfl⟩, hS1, tb1⟩
        refine ⟨_, rfl, _, rfl, a, ns, _, rfl, hS1, by show (0 : Int) ≤ 0 + (i : Nat); omega, fun H2 p s2 hp2 dc2 => ?_⟩
        have hp1 : H1 p = none := hp2
        have keep : ∀ H', Kt p H1 H' → SqL K H' a (ns.map V.int) := sq_keep hS1 hp1
        refine ⟨2, rfl, by decide, by decide, for_range (n := 2) (fun i σ H' => (∃ b1 b3 b4 b5 b6 b7 b8 : Option V, σ = [some (.ref a), b1, some (.ref p), b3, b4, b5, b6, b7, b8]) ∧ Kt p H1 H' ∧ DiceAt H' p ∧ LamX.Tabs T H') ⟨⟨_, _, _, _, _, _, _, rfl⟩, kds s2, dc2, tabs_same tb1 s2⟩ ?_ ?_⟩
        · rintro j σ H3 hj ⟨⟨c1, c3, c4, c5, c6, c7, c8, rfl⟩, k3, dc3, tb3⟩
          exact ⟨_, rfl, p, rfl, dc3, tb3, fun H4 k4 dc4 tb4 => ⟨_, rfl, if_neg_of rfl ⟨⟨_, _, _, _, _, _, _, rfl⟩, k3.tr k4, dc4, tb4⟩⟩⟩
        · rintro σ H3 ⟨⟨c1, c3, c4, c5, c6, c7, c8, rfl⟩, k3, dc3, tb3⟩
          exact ⟨⟨_, _, _, _, _, _, _, _, rfl⟩, keep _ k3, tb3⟩
      · rintro σ H1 ⟨⟨b1, b2, b3, b4, b5, b6, b7, b8, rfl⟩, _, _⟩
        exact ⟨_, _, _, _, _, _, _, _, rfl⟩
    rintro σ H1 ⟨b1, b2, b3, b4, b5, b6, b7, b8, rfl⟩
    refine ⟨3, rfl, by decide, by decide, fun D hD => lc_made (walk_range (lo := 0) (n := 3)) (fun i y H' => ∃ p, y = V.ref p ∧ ∀ H'', Kd D H' H'' → QuZ K C H'' p (wq i))
      (fun i y H2 H3 ⟨p, e, h⟩ kd => ⟨p, e, fun H4 k4 => h H4 (kd.tr k4)⟩) (by rw [sizeLine_eq]; omega) hD (fun H2 s2 => True.intro) ?_ gName_mono ?_⟩
    · rintro i x H2 H3 hi s2 ⟨acc, hacc⟩ ⟨rfl, hx⟩
      have hx : x = V.int (i : Nat) := by rw [hx]; show V.int (0 + (i : Int)) = _; rw [Int.zero_add]
      subst hx
      refine ⟨rfl, fun Q' hq => ?_⟩
      refine ⟨_, rfl, i, rfl, by omega, fun H4 d s4 hd pl => ?_⟩
      refine ⟨d, wq i, rfl, pl, wf (by omega), fun p H5 s5 hp5 qz => ?_⟩
      have hD5 := s5 _ _ (s4 _ _ hacc)
      exact hq _ _ (K0.Same.tr s4 s5) ⟨p, rfl, fun H'' kd => qz.kdL hD5 kd⟩
    · intro H2 acc s2 hD2 hlen hR
      obtain ⟨v0, v1, v2, rfl⟩ : ∃ v0 v1 v2, acc = [v0, v1, v2] := by
        match acc, hlen with
        | [v0, v1, v2], _ => exact ⟨_, _, _, rfl⟩
      obtain ⟨p0, rfl, h0⟩ := hR 0 _ rfl
      obtain ⟨p1, rfl, h1⟩ := hR 1 _ rfl
      obtain ⟨p2, rfl, h2⟩ := hR 2 _ rfl
      have u0 := h0 H2 fun _ _ _ e => e
      have u1 := h1 H2 fun _ _ _ e => e
      have u2 := h2 H2 fun _ _ _ e => e
      refine ⟨D, _, rfl, SqL.of hD2, rfl, _, _, rfl, _, _, rfl, _, _, rfl, rfl, ?_⟩
      clear h0 h1 h2 hR hD2 hlen
      have w0 : WfQ (wq 0) := wf (by decide)
      have w1 : WfQ (wq 1) := wf (by decide)
      have w2 : WfQ (wq 2) := wf (by decide)
      obtain ⟨tc1, ta1, to1, td1, ts1, ns1, U1, _⟩ := id u1
      obtain ⟨dx1, ep1⟩ := U1.ob
      refine ⟨_, rfl, p1, dx1, _, rfl, ep1, qFs_no (by decide +kernel) (by decide +kernel) (by decide +kernel) (by decide +kernel), by show 2 ≤ sizeLine; decide, fun t2 ht2 => ⟨by show 2 ≤ sizeLine; decide, fun t1 ht1 => ?_⟩⟩
      have s3 := K0.Same.new (.tup [.str "a", .str "c"]) ht2
      have s4 := K0.Same.new (.tup [.str "t", .ref t2]) ht1
      have s34 := K0.Same.tr s3 s4
      have cin : cTac ∈ (wq 1).cls := List.mem_of_getElem? at2w
      refine ⟨p1, t1, wq 1, cTac, rfl, u1.same s34, w1, ⟨t2, upd_same, s4 _ _ upd_same⟩, w1.clause cin, fun no => absurd cin no, fun j hj => ?_⟩
      obtain rfl := up_nodup w1.c.up at2w hj
      refine ⟨fun _ r1 H5 s5 qo5 => ?_, fun no => absurd q0_wf no⟩
      have s25 : Same H2 H5 := K0.Same.tr s34 s5
      generalize (upd (upd H2 t2 (.tup [.str "a", .str "c"])) t1 (.tup [.str "t", .ref t2])) = HX at *
      obtain ⟨dx5, fs5, e5⟩ := qo5.ins
      refine ⟨r1, dx5, fs5, rfl, e5, r1, _, rfl, qo5, q0_wf, fun H6 s6 => ⟨_, rfl, ?_⟩⟩
      have s26 : Same H2 H6 := K0.Same.tr s25 s6
      have v0 := u0.same s26
      have v1 := u1.same s26
      have v2 := u2.same s26
      clear s3 s4 s34 s5 s6 s25 s26 u0 u1 u2 U1 ep1 ht1 ht2 qo5 e5
      obtain ⟨tc0, ta0, to0, td0, ts0, ns0, U0, _⟩ := id v0
      obtain ⟨dx0, ep0⟩ := U0.ob
      refine ⟨_, rfl, p0, dx0, _, rfl, ep0, qFs_no (by decide +kernel) (by decide +kernel) (by decide +kernel) (by decide +kernel), fun d hd => ⟨upd_same, d1K, rfl, by show 3 ≤ 15; decide, ?_⟩⟩
      have em1 : mergeK [] d1K = d1K := rfl
      rw [em1]
      have s7 : Same H6 (upd (upd H6 d (.dK [])) d (.dK d1K)) := fun b o e => by
        rw [upd_ne (ne_of_none e hd), upd_ne (ne_of_none e hd)]
        exact e
      have nd1 : NamD (upd (upd H6 d (.dK [])) d (.dK d1K)) d abcS f1 := namd1 upd_same
      generalize upd (upd H6 d (.dK [])) d (.dK d1K) = H7 at s7 nd1 ⊢
      refine ⟨p0, d, wq 0, abcS, f1, rfl, (v0.same s7).o, w0, abc0, nd1, nam1, fun r2 H8 cs' s8 srt qo8 => ?_⟩
      have wf8 := w0.fold (fun k hk => nam1 k ((abc0.2.2 k).mpr hk)) srt
      obtain rfl := srt.one srt1
      obtain ⟨dx8, fs8, e8⟩ := qo8.ins
      refine ⟨r2, dx8, fs8, rfl, e8, r2, _, rfl, qo8, wf8, fun H9 s9 => ⟨_, rfl, ?_⟩⟩
      have s69 := K0.Same.tr s7 (K0.Same.tr s8 s9)
      have y0 := v0.same s69
      have y1 := v1.same s69
      have y2 := v2.same s69
      clear v0 v1 v2 s69 s7 s8 s9 nd1 U0 ep0 qo8 e8 hd wf8 srt
      obtain ⟨dxa, fsa, ea⟩ := y0.o.ins
      obtain ⟨dxb, fsb, eb⟩ := y1.o.ins
      refine ⟨_, rfl, _, rfl, p0, dxa, fsa, p1, dxb, fsb, rfl, rfl, ea, eb, p0, p1, wq 0, wq 1, rfl, y0.o, w0, y1.o, w1, fun cs' srt => ?_⟩
      obtain rfl := srt.one srt2
      refine ⟨fun _ r3 H10 s10 qo10 => ⟨⟨r3, rfl⟩, ?_⟩, fun no => absurd q2_wf no⟩
      obtain ⟨dx10, fs10, e10⟩ := qo10.ins
      refine ⟨r3, dx10, fs10, rfl, e10, r3, _, rfl, qo10, q2_wf, fun H11 s11 => ⟨_, rfl, ?_⟩⟩
      have z2 := y2.same (K0.Same.tr s10 s11)
      clear y0 y1 y2 s10 s11 ea eb qo10 e10 srt
      refine ⟨by show 3 ≤ sizeLine; decide, fun l hl => ?_⟩
      have s12 := K0.Same.new (.lst [V.str (textQ ⟨less (wq 1).cls 2, leftA (wq 1) (less (wq 1).cls 2)⟩), .str (textQ ⟨cls1, fo ((wq 0).asked.map f1)⟩), .str (textQ ⟨(wq 1).cls, fo ((wq 0).asked ++ (wq 1).asked)⟩)]) hl
      have x2 := z2.same s12
      have el : (upd H11 l (.lst [V.str (textQ ⟨less (wq 1).cls 2, leftA (wq 1) (less (wq 1).cls 2)⟩), .str (textQ ⟨cls1, fo ((wq 0).asked.map f1)⟩), .str (textQ ⟨(wq 1).cls, fo ((wq 0).asked ++ (wq 1).asked)⟩)])) l = some (.lst [V.str (textQ ⟨less (wq 1).cls 2, leftA (wq 1) (less (wq 1).cls 2)⟩), .str (textQ ⟨cls1, fo ((wq 0).asked.map f1)⟩), .str (textQ ⟨(wq 1).cls, fo ((wq 0).asked ++ (wq 1).asked)⟩)]) := upd_same
      obtain ⟨tc2, ta2, to2, td2, ts2, ns2, U2, _⟩ := id x2
      obtain ⟨dx2, ep2⟩ := U2.ob
      refine ⟨_, rfl, .inl ⟨rfl, _, SqL.of el⟩, _, rfl, p2, dx2, _, rfl, ep2, qFs_no (by decide +kernel) (by decide +kernel) (by decide +kernel) (by decide +kernel), fun d hd => ⟨upd_same, d3K, rfl, by show 3 ≤ 15; decide, ?_⟩⟩
      have em3 : mergeK [] d3K = d3K := rfl
      rw [em3]
      generalize (upd H11 l (.lst [V.str (textQ ⟨less (wq 1).cls 2, leftA (wq 1) (less (wq 1).cls 2)⟩), .str (textQ ⟨cls1, fo ((wq 0).asked.map f1)⟩), .str (textQ ⟨(wq 1).cls, fo ((wq 0).asked ++ (wq 1).asked)⟩)])) = H12 at *
      have s13 : Same H12 (upd (upd H12 d (.dK [])) d (.dK d3K)) := fun b o e => by
        rw [upd_ne (ne_of_none e hd), upd_ne (ne_of_none e hd)]
        exact e
      have nd3 : NamD (upd (upd H12 d (.dK [])) d (.dK d3K)) d abcS f3 := namd3 upd_same
      generalize upd (upd H12 d (.dK [])) d (.dK d3K) = H13 at s13 nd3 ⊢
      refine ⟨p2, d, wq 2, abcS, f3, rfl, (x2.same s13).o, w2, abc2, nd3, nam3, fun r4 H14 cs' s14 srt qo14 => ?_⟩
      have wf14 := w2.fold (fun k hk => nam3 k ((abc2.2.2 k).mpr hk)) srt
      obtain rfl := srt.one srt3
      obtain ⟨dx14, fs14, e14⟩ := qo14.ins
      refine ⟨r4, dx14, fs14, rfl, e14, r4, _, rfl, qo14, wf14, fun H15 s15 => ⟨_, rfl, ?_⟩⟩
      have el15 := s15 _ _ (s14 _ _ (s13 _ _ el))
      refine ⟨l, _, _, rfl, rfl, el15, by show 3 < sizeLine; decide, ?_⟩
      refine ⟨_, rfl, by show 4 ≤ sizeLine; decide, fun l2 hl2 => ?_⟩
      have s16 := K0.Same.new (.lst [V.str ": r(a b) s(b c)", .str "a c : r(a a) s(a c)", .str "a c : r(a b) s(b c) t(a c)", .str "x : r(x y)"]) hl2
      have el16 := s16 _ _ (upd_same (H := H15) (a := l) (o := .lst ([V.str (textQ ⟨less (wq 1).cls 2, leftA (wq 1) (less (wq 1).cls 2)⟩), .str (textQ ⟨cls1, fo ((wq 0).asked.map f1)⟩), .str (textQ ⟨(wq 1).cls, fo ((wq 0).asked ++ (wq 1).asked)⟩)] ++ [.str (textQ ⟨cls3, fo ((wq 2).asked.map f3)⟩)])))
      rw [show textQ ⟨less (wq 1).cls 2, leftA (wq 1) (less (wq 1).cls 2)⟩ = _ from text0, text1, text2, text3] at el16
      refine ⟨dueL, dueL, .lst (SqL.of el16) (.cons (.str _) (.cons (.str _) (.cons (.str _) (.cons (.str _) .nil)))), .lst (SqL.of upd_same) (.cons (.str _) (.cons (.str _) (.cons (.str _) (.cons (.str _) .nil)))), dueL_sh, dueL_sh, ?_⟩
      rw [dueL_eq]
      exact k _
end
end K0

/-! ## E2 -/
set_option maxRecDepth 100000
set_option maxHeartbeats 2000000
namespace K0
open PySem PySem.Spec PyProof.Rows L2
/-! ### the end: the law called where nothing is being shown, with tables of code objects -/
/-- the script's list and the tables, all that is tracked at the start -/
def startH (K : PySem.W.Frag) (ts : List Addr) (a : Addr) (oS : Obj) (xs : List V) : Hp := fun b => if b ∈ ts then some (.tbl #[]) else if b = a ∧ (K.lookup a).isNone = true then some (.frz oS (.lst xs)) else none
section
variable {P : Program} {w : World} {K : PySem.W.Frag} {mg mb : Str → Option Value} {a fa : Addr} {ts : List Addr} {s : Shared} {us : List Value} {ns : List Int}
abbrev lstO (us : List Value) : Obj := { cls := .type "list", data := .seq us.toArray }
theorem startH_tab {oS : Obj} {xs : List V} {b : Addr} (h : b ∈ ts) : startH K ts a oS xs b = some (.tbl #[]) := if_pos h
theorem startH_cases {oS : Obj} {xs : List V} {b : Addr} {o : HO} (h : startH K ts a oS xs b = some o) : (b ∈ ts ∧ o = .tbl #[]) ∨ (b = a ∧ K.lookup a = none ∧ o = .frz oS (.lst xs)) := by
  unfold startH at h
  split at h
  · rename_i h1
    cases h
    exact .inl ⟨h1, rfl⟩
  · split at h
    · rename_i h2
      cases h
      exact .inr ⟨h2.1, Option.isNone_iff_eq_none.mp h2.2, rfl⟩
    · cases h
theorem startH_no {oS : Obj} {xs : List V} {b : Addr} (h1 : b ∉ ts) (h2 : b = a → K.lookup a ≠ none) : startH K ts a oS xs b = none := by
  cases e : startH K ts a oS xs b with
  | none => rfl
  | some o =>
    rcases startH_cases e with ⟨z, _⟩ | ⟨z, y, _⟩
    · exact absurd z h1
    · exact absurd y (h2 z)
/-- what holds of the world before the call -/
structure Fore (K : PySem.W.Frag) (mg mb : Str → Option Value) (ts : List Addr) (a : Addr) (us : List Value) (ns : List Int) (s : Shared) : Prop where
  k : K.In s.heap
  g : s.heap.Ns mainGlobals mg
  b : s.heap.Ns builtinsNs mb
  bb : ∀ x : Str, x ≠ "__name__" → mb x = bootBuiltins x
  lim : s.heap.NoLimit
  gens : s.gens = #[]
  tab : ∀ q ∈ ts, s.heap.get? q = some { cls := .none, data := .fields #[] }
  noK : ∀ q ∈ ts, K.lookup q = none
  bm : ∃ (bm : Addr) (ob : Obj), mg "__builtins__" = some (.ref bm) ∧ bm ≠ builtinsNs ∧ s.heap.get? bm = some ob ∧ ob.cls = .type "module" ∧ ob.dict = some builtinsNs ∧ ob.data = .plain
  scr : s.heap.get? a = some (lstO us)
  nums : IntsAre us ns
  len : ns.length ≤ sizeLine
theorem Fore.aT (F : Fore K mg mb ts a us ns s) : a ∉ ts := fun z => by
  have q := F.tab a z
  rw [F.scr] at q
  have z2 : (Value.type "list") = Value.none := congrArg Obj.cls (Option.some.inj q)
  cases z2
theorem Fore.off (F : Fore K mg mb ts a us ns s) {b : Addr} {o : Obj} (e : s.heap.get? b = some o) (h : o.cls ≠ .none) (h2 : o.cls ≠ .type "list") : startH K ts a (lstO us) (ns.map V.int) b = none :=
  startH_no (fun z => by
    rw [F.tab b z] at e
    cases e
    exact h rfl) fun z => by
    rw [z, F.scr] at e
    cases e
    exact absurd rfl h2
theorem Fore.offD (F : Fore K mg mb ts a us ns s) {b : Addr} {o : Obj} (e : s.heap.get? b = some o) (h : o.data ≠ .fields #[]) (h2 : ∀ vs n, o.data ≠ .seq vs n) : startH K ts a (lstO us) (ns.map V.int) b = none :=
  startH_no (fun z => by
    rw [F.tab b z] at e
    cases e
    exact h rfl) fun z => by
    rw [z, F.scr] at e
    cases e
    exact absurd rfl (h2 _ _)
/-- the part of the heap that no one tracks -/
abbrev foreB (K : PySem.W.Frag) (ts : List Addr) (a : Addr) (us : List Value) (ns : List Int) (s : Shared) : Heap := hidT s.heap (startH K ts a (lstO us) (ns.map V.int))
theorem Fore.nsB (F : Fore K mg mb ts a us ns s) {b : Addr} {m : Str → Option Value} (h : s.heap.Ns b m) : (foreB K ts a us ns s).Ns b m := by
  obtain ⟨o, es, ep, e, d, r⟩ := h
  refine ⟨o, es, ep, hidT_get e (F.offD e (fun z => ?_) fun vs n z => ?_), d, r⟩
  · rw [d] at z
    cases z
  · rw [d] at z
    cases z
theorem Fore.kB (F : Fore K mg mb ts a us ns s) : K.In (foreB K ts a us ns s) := fun b o e => hidT_get (F.k b o e) (startH_no (fun z => by
  rw [F.noK b z] at e
  cases e) fun z y => by
    rw [z, y] at e
    cases e)
theorem Fore.modB (F : Fore K mg mb ts a us ns s) : L2.Mod K mg (foreB K ts a us ns s) := ⟨F.kB, F.nsB F.g, ⟨mb, F.nsB F.b, F.bb⟩, by
  obtain ⟨mc, h1, h2⟩ := F.lim
  exact ⟨mc, F.nsB h1, h2⟩⟩
theorem Fore.tabB (F : Fore K mg mb ts a us ns s) {c q : Addr} (hq : q ∈ ts) (C : PySem.W.CodeHd s.heap c q) : LamX.TabB (foreB K ts a us ns s) mg c q := by
  have hT := F.tab q hq
  refine ⟨?_, ?_, fun z => ?_⟩
  · obtain ⟨o, vs, file, tf, flags, tg, inF, text, tt, e1, r1, r2, r3, rest⟩ := C
    refine ⟨o, vs, file, tf, flags, tg, inF, text, tt, hidT_get e1 (F.offD e1 (fun z => ?_) fun us n z => ?_), r1, r2, r3, rest⟩
    · rw [r2] at z
      cases z
      simp at r3
    · rw [r2] at z
      cases z
  · obtain ⟨bm, ob, b1, b2, b3, b4, b5, b6⟩ := F.bm
    have pl : ob.data ≠ .fields #[] := fun z => by
      rw [b6] at z
      cases z
    refine ⟨bm, ob, b1, b2, fun z => ?_, fun z => ?_, hidT_get b3 (F.offD b3 pl fun us n z => ?_), b4, b5, b6⟩
    · obtain ⟨o, es, ep, e, hd, _⟩ := F.g
      rw [z, e] at b3
      cases b3
      rw [hd] at b6
      cases b6
    · rw [z, hT] at b3
      cases b3
      cases b6
    · rw [b6] at z
      cases z
  · obtain ⟨o, es, ep, e, hd, _⟩ := F.g
    rw [z, hT] at e
    cases e
    cases hd
theorem Fore.hok (F : Fore K mg mb ts a us ns s) : HOk P w (startH K ts a (lstO us) (ns.map V.int)) s.heap := fun b o e => by
  rcases startH_cases e with ⟨z, rfl⟩ | ⟨z, _, rfl⟩
  · exact F.tab b z
  · rw [z]
    refine ⟨F.scr, by rw [List.length_map]; exact F.len, us, _, vals_ints F.nums, F.scr⟩
theorem Fore.seqS (F : Fore K mg mb ts a us ns s) : SqL K (startH K ts a (lstO us) (ns.map V.int)) a (ns.map V.int) := by
  cases hk : K.lookup a with
  | none =>
    refine .inl (.inr ⟨lstO us, ?_⟩)
    unfold startH
    rw [if_neg F.aT, if_pos ⟨rfl, by rw [hk]; rfl⟩]
  | some o =>
    have e := F.k a o hk
    rw [F.scr] at e
    cases e
    have lu := F.nums.length
    exact .inr ⟨_, us.toArray, _, hk, rfl, rfl, rfl, by rw [List.size_toArray, lu]; exact F.len, by simpa using vals_ints F.nums⟩
theorem law_callG {CX : CXT} {k : Nat} {fd : FuncData} {x : Str} {sp : Sp} {cs : List (Addr × Addr)} (F : Fore K mg mb ts a us ns s) (hc : ∀ p ∈ cs, p.2 ∈ ts ∧ PySem.W.CodeHd s.heap p.1 p.2) (hc2 : ∀ q ∈ ts, ∃ c, PySem.W.CodeHd s.heap c q) (hr : Room k callerA)
    (G : ∀ base : Heap, K.In base → base.Ns mainGlobals mg → (∀ p ∈ cs, LamX.TabB base mg p.1 p.2) → FnG P w K mg base CX k fa fd [x] sp) (hbind : ∀ (s : Shared) (u : Value), BindsTo s fd ⟨[u], []⟩ [(x, u)])
    (hsp : ∀ H : Hp, (∀ q ∈ ts, H q = some (.tbl #[])) → SqL K H a (ns.map V.int) → sp [.ref a] H (fun v _ => v = .bl true) fun _ _ _ => False) (hCX : ∀ H e s', CX [] H s (fun _ _ _ => False) e s' → False) :
    codeAny (model P w) callerA (.call (.ref fa) ⟨[.ref a], []⟩) (fun r s' => r = .ok (.ret (.bool true)) ∧ OldK s.heap s'.heap ∧ s'.os = s.os ∧ AllBare s'.gens) s := by
  have e0 : Env0 P w K mg (foreB K ts a us ns s) callerA [] s (startH K ts a (lstO us) (ns.map V.int)) := ⟨rfl, F.modB, fun b o e => of_hidT e, Nat.le_of_eq (hidT_size _ _), trivial, (fun b hb => nomatch hb), F.hok, .of_eq F.gens⟩
  have g := (G _ F.kB (F.nsB F.g) fun p hp => F.tabB (hc p hp).1 (hc p hp).2).run callerA [] s _ ⟨[.ref a], []⟩ [.ref a] [.ref a] _ _ hr rfl e0 (hbind s (.ref a)) (.cons rfl .nil) (hsp _ (fun q hq => startH_tab hq) F.seqS)
  refine codeAny_mono g fun r s' h => ?_
  rcases r with e | (_ | _ | _ | u)
  · exact (hCX _ e s' h).elim
  · exact False.elim h
  · exact False.elim h
  · exact False.elim h
  · obtain ⟨v, H', os, bare, un, ok2, rv, q⟩ := h
    have q' : v = .bl true := q
    subst q'
    obtain rfl : u = Value.bool true := rv
    have grown : ∀ z ∈ ts, ∃ more : Array Value, s'.heap.get? z = some { cls := .none, data := .fields more } := fun z hz => by
      obtain ⟨more, y⟩ := un.tbls z #[] (startH_tab hz)
      exact ⟨_, ok2 z _ y⟩
    have stay : ∀ b o, b ∉ ts → s.heap.get? b = some o → s'.heap.get? b = some o := fun b o nb e => by
      cases y : startH K ts a (lstO us) (ns.map V.int) b with
      | none => exact un.keep b o e y (fun z => nomatch z) (fun z => nomatch z)
      | some u =>
        rcases startH_cases y with ⟨z, _⟩ | ⟨z, _, rfl⟩
        · exact absurd z nb
        · obtain ⟨e2, _⟩ := ok2 b _ (un.frzs b _ _ y)
          rw [z, F.scr] at e
          cases e
          rw [z] at e2 ⊢
          exact e2
    refine ⟨rfl, ⟨fun b o e => ?_, fun b o e => ?_⟩, os, bare⟩
    · by_cases hb : b ∈ ts
      · obtain ⟨more, y⟩ := grown b hb
        obtain ⟨c, C⟩ := hc2 b hb
        rw [F.tab b hb] at e
        cases e
        exact .inr (.inl ⟨(C.tab (F.tab b hb)).isCodeTable, rfl, #[], more, rfl, by rw [Array.empty_append]; exact y⟩)
      · exact .inl (stay b o hb e)
    · by_cases hb : b ∈ ts
      · obtain ⟨more, y⟩ := grown b hb
        exact ⟨_, y⟩
      · exact ⟨o, stay b o hb e⟩
end
end K0

/-! ## U2 -/
set_option maxRecDepth 100000
set_option maxHeartbeats 4000000
namespace K0
open PySem PySem.Spec PyProof.Rows L2
theorem both {a b : Bool} (h : (a && b) = true) : a = true ∧ b = true := Bool.and_eq_true_iff.mp h
theorem prB_ok {K : PySem.W.Frag} {f : Str} (h : prB K f = true) : PropOf K (caQ K) f (He.ma K (caQ K) f) (gG K f) := by
  obtain ⟨h1, h⟩ := both h
  obtain ⟨h2, h⟩ := both h
  obtain ⟨h3, h4⟩ := both h
  refine ⟨of_decide_eq_true h1, of_decide_eq_true h2, of_decide_eq_true h3, ?_⟩
  unfold gG He5.wf
  split at h4
  · rename_i g r e
    exact ⟨r, by rw [e]⟩
  · cases h4
theorem funC_of {K : PySem.W.Frag} {x qual : Str} {st : Stmt} {p : Str × Option Str} {fd : FuncData} (F : FunD K x qual (defArgs st) (defBody st) (defScope st) [] [] (He.fAd K p) fd) : FunC K x qual st (He.fAd K p) fd (He.codeOf K p) := by
  obtain ⟨oc, od, dV, kV, doc, pm, an, cdv, ct, osl, e, l, c, hd, _⟩ := F.ex
  obtain ⟨c', rfl⟩ := He.codeIn_ref c
  have e0 : dV = .none := by
    rcases hd with ⟨_, z⟩ | ⟨z, _⟩
    · exact z
    · exact absurd rfl z
  subst e0
  subst e
  rw [He.codeOf_eq l rfl]
  exact ⟨⟨oc, od, kV, doc, pm, an, ct, osl, rfl, l, c⟩, F.kp⟩
theorem hT3 {A B C : Addr} {a b c : Str} (ab : A ≠ B) (ac : A ≠ C) (bc : B ≠ C) : (∀ q, (A, q) ∈ [(A, a), (B, b), (C, c)] ↔ q = a) ∧ (∀ q, (B, q) ∈ [(A, a), (B, b), (C, c)] ↔ q = b) ∧ ∀ q, (C, q) ∈ [(A, a), (B, b), (C, c)] ↔ q = c := by
  refine ⟨fun q => ?_, fun q => ?_, fun q => ?_⟩
  · simp only [List.mem_cons, Prod.mk.injEq, List.not_mem_nil, or_false, true_and]
    exact ⟨fun h => h.elim id fun h => h.elim (fun z => absurd z.1 ab) fun z => absurd z.1 ac, .inl⟩
  · simp only [List.mem_cons, Prod.mk.injEq, List.not_mem_nil, or_false, true_and]
    exact ⟨fun h => h.elim (fun z => absurd z.1.symm ab) fun h => h.elim id fun z => absurd z.1 bc, fun z => .inr (.inl z)⟩
  · simp only [List.mem_cons, Prod.mk.injEq, List.not_mem_nil, or_false, true_and]
    exact ⟨fun h => h.elim (fun z => absurd z.1.symm ac) fun h => h.elim (fun z => absurd z.1.symm bc) id, fun z => .inr (.inr z)⟩
theorem facts {P : Program} {w w0 : World} {K : PySem.W.Frag} {h : Heap} {mg : Str → Option Value} (X : K.In h) (G : h.Ns mainGlobals mg) (c : He.SaysX fa0 fn0 [] tf0 ex0 w0 h K) (cg : He5.SaysA [] fg0 K) :
    mg "law" = some (.ref (He.ga K "law")) ∧ ∃ fd : FuncData, (∀ (s : Shared) (u : Value), BindsTo s fd ⟨[u], []⟩ [("_law_script", u)]) ∧
      ∀ base : Heap, K.In base → base.Ns mainGlobals mg → (∀ p ∈ cs0 K, LamX.TabB base mg p.1 p.2) → FnG P w K mg base CX0 13 (He.ga K "law") fd ["_law_script"] (spLaw K (T0 K)) := by
  have D := c.t.d
  have gl : ∀ {x : Str} (i : Nat), fa0[i]? = some (.glo x) → mg x = some (.ref (He.ga K x)) := fun i e => He.glo_ok X G (D.fact i e)
  have fr : ∀ {x : Str} (i : Nat), fa0[i]? = some (.free x) → mg x = none := fun i e => He.free_ok X G (D.fact i e)
  have nt : ∀ {x : Str} {k : Int} (i : Nat), fa0[i]? = some (.int x k) → ∃ t, mg x = some (.int k t) := fun i e => He.int_ok X G (D.fact i e)
  have mt : ∀ {m : Str} (i : Nat), fa0[i]? = some (.meth "Question" m) → Meth K (caQ K) m (He.ma K (caQ K) m) := fun i e => He.meth_ok (D.fact i e)
  have na : ∀ {m : Str} (i : Nat), fa0[i]? = some (.noat "Question" m) → NoAttr K (caQ K) m := fun i e => He.noat_ok (D.fact i e)
  obtain ⟨pB, m⟩ := both c.more
  obtain ⟨m1, m2⟩ := both m
  obtain ⟨a1, m1⟩ := both m1
  obtain ⟨a2, m1⟩ := both m1
  obtain ⟨a3, m1⟩ := both m1
  obtain ⟨a4, m1⟩ := both m1
  obtain ⟨a5, m1⟩ := both m1
  obtain ⟨a6, m1⟩ := both m1
  obtain ⟨a7, a8⟩ := both m1
  obtain ⟨b1, m2⟩ := both m2
  obtain ⟨b2, m2⟩ := both m2
  obtain ⟨b3, m2⟩ := both m2
  obtain ⟨b4, m2⟩ := both m2
  obtain ⟨b5, b6⟩ := both m2
  have pr : ∀ {f : Str} (i : Nat), prN[i]? = some f → PropOf K (caQ K) f (He.ma K (caQ K) f) (gG K f) := fun i e => prB_ok (List.all_eq_true.mp pB _ (List.mem_of_getElem? e))
  obtain ⟨hTa, hTb, hTc⟩ := hT3 (A := (tA K).2) (B := (tB K).2) (C := (tC0 K).2) (a := "_law_clauses_right.<locals>.<lambda>") (b := "_law_names_right.<locals>.<lambda>") (c := "_law_right.<locals>.<lambda>") (of_decide_eq_true b4) (of_decide_eq_true b5) (of_decide_eq_true b6)
  obtain ⟨fd11, F11⟩ := D.def_ 0 (d := d11) rfl
  have U11 : Fun K "is_integer" "is_integer" (top 11) (He.ga K "is_integer") fd11 := He5.fun_of F11
  have B11 : Binds K fd11 ["value"] [] := L2.Fun.binds U11 fun _ _ _ _ _ _ us hl => match us, hl with | [_], _ => rfl
  obtain ⟨fd12, F12⟩ := D.def_ 1 (d := d12) rfl
  have U12 : Fun K "is_pair" "is_pair" (top 12) (He.ga K "is_pair") fd12 := He5.fun_of F12
  have B12 : Binds K fd12 ["value"] [] := L2.Fun.binds U12 fun _ _ _ _ _ _ us hl => match us, hl with | [_], _ => rfl
  obtain ⟨fd13, F13⟩ := D.def_ 2 (d := d13) rfl
  have U13 : Fun K "is_width" "is_width" (top 13) (He.ga K "is_width") fd13 := He5.fun_of F13
  have B13 : Binds K fd13 ["value"] [] := L2.Fun.binds U13 fun _ _ _ _ _ _ us hl => match us, hl with | [_], _ => rfl
  obtain ⟨fd14, F14⟩ := D.def_ 3 (d := d14) rfl
  have U14 : Fun K "is_name" "is_name" (top 14) (He.ga K "is_name") fd14 := He5.fun_of F14
  have B14 : Binds K fd14 ["value"] [] := L2.Fun.binds U14 fun _ _ _ _ _ _ us hl => match us, hl with | [_], _ => rfl
  obtain ⟨fd15, F15⟩ := D.def_ 4 (d := d15) rfl
  have U15 : Fun K "are_names" "are_names" (top 15) (He.ga K "are_names") fd15 := He5.fun_of F15
  have B15 : Binds K fd15 ["value"] [] := L2.Fun.binds U15 fun _ _ _ _ _ _ us hl => match us, hl with | [_], _ => rfl
  obtain ⟨fd16, F16⟩ := D.def_ 5 (d := d16) rfl
  have U16 : Fun K "are_different" "are_different" (top 16) (He.ga K "are_different") fd16 := He5.fun_of F16
  have B16 : Binds K fd16 ["values"] [] := L2.Fun.binds U16 fun _ _ _ _ _ _ us hl => match us, hl with | [_], _ => rfl
  obtain ⟨fd17, F17⟩ := D.def_ 6 (d := d17) rfl
  have U17 : Fun K "is_ascending" "is_ascending" (top 17) (He.ga K "is_ascending") fd17 := He5.fun_of F17
  have B17 : Binds K fd17 ["values"] [] := L2.Fun.binds U17 fun _ _ _ _ _ _ us hl => match us, hl with | [_], _ => rfl
  obtain ⟨fd18, F18⟩ := D.def_ 7 (d := d18) rfl
  have U18 : Fun K "is_dict_from" "is_dict_from" (top 18) (He.ga K "is_dict_from") fd18 := He5.fun_of F18
  have B18 : Binds K fd18 ["keys", "value"] [] := L2.Fun.binds U18 fun _ _ _ _ _ _ us hl => match us, hl with | [_, _], _ => rfl
  obtain ⟨fd19, F19⟩ := D.def_ 8 (d := d19) rfl
  have U19 : Fun K "is_naming" "is_naming" (top 19) (He.ga K "is_naming") fd19 := He5.fun_of F19
  have B19 : Binds K fd19 ["names", "value"] [] := L2.Fun.binds U19 fun _ _ _ _ _ _ us hl => match us, hl with | [_, _], _ => rfl
  obtain ⟨fd23, F23⟩ := D.def_ 9 (d := d23) rfl
  have U23 : Fun K "is_clause" "is_clause" (top 23) (He.ga K "is_clause") fd23 := He5.fun_of F23
  have B23 : Binds K fd23 ["value"] [] := L2.Fun.binds U23 fun _ _ _ _ _ _ us hl => match us, hl with | [_], _ => rfl
  obtain ⟨fd24, F24⟩ := D.def_ 10 (d := d24) rfl
  have U24 : Fun K "_columns_of" "_columns_of" (top 24) (He.ga K "_columns_of") fd24 := He5.fun_of F24
  have B24 : Binds K fd24 ["clauses"] [] := L2.Fun.binds U24 fun _ _ _ _ _ _ us hl => match us, hl with | [_], _ => rfl
  obtain ⟨fd25, F25⟩ := D.def_ 11 (d := d25) rfl
  have U25 : Fun K "_tables_of" "_tables_of" (top 25) (He.ga K "_tables_of") fd25 := He5.fun_of F25
  have B25 : Binds K fd25 ["clauses"] [] := L2.Fun.binds U25 fun _ _ _ _ _ _ us hl => match us, hl with | [_], _ => rfl
  obtain ⟨fd26, F26⟩ := D.def_ 12 (d := d26) rfl
  have U26 : Fun K "_are_clauses" "_are_clauses" (top 26) (He.ga K "_are_clauses") fd26 := He5.fun_of F26
  have B26 : Binds K fd26 ["value"] [] := L2.Fun.binds U26 fun _ _ _ _ _ _ us hl => match us, hl with | [_], _ => rfl
  obtain ⟨fd27, F27⟩ := D.def_ 13 (d := d27) rfl
  have U27 : Fun K "_are_asked" "_are_asked" (top 27) (He.ga K "_are_asked") fd27 := He5.fun_of F27
  have B27 : Binds K fd27 ["clauses", "value"] [] := L2.Fun.binds U27 fun _ _ _ _ _ _ us hl => match us, hl with | [_, _], _ => rfl
  obtain ⟨fd28, F28⟩ := D.def_ 14 (d := d28) rfl
  have U28 : Fun K "_first_ones" "_first_ones" (top 28) (He.ga K "_first_ones") fd28 := He5.fun_of F28
  have B28 : Binds K fd28 ["names"] [] := L2.Fun.binds U28 fun _ _ _ _ _ _ us hl => match us, hl with | [_], _ => rfl
  obtain ⟨fd31, F31⟩ := D.def_ 15 (d := d31) rfl
  have U31 : Fun K "_law_dice" "_law_dice" (top 31) (He.ga K "_law_dice") fd31 := He5.fun_of F31
  have B31 : Binds K fd31 ["_law_script", "_law_spot"] [] := L2.Fun.binds U31 fun _ _ _ _ _ _ us hl => match us, hl with | [_, _], _ => rfl
  obtain ⟨fd32, F32⟩ := D.def_ 16 (d := d32) rfl
  have U32 : Fun K "_law_roll" "_law_roll" (top 32) (He.ga K "_law_roll") fd32 := He5.fun_of F32
  have B32 : Binds K fd32 ["_law_dice_here", "_law_total"] [] := L2.Fun.binds U32 fun _ _ _ _ _ _ us hl => match us, hl with | [_, _], _ => rfl
  obtain ⟨fd33, F33⟩ := D.def_ 17 (d := d33) rfl
  have U33 : Fun K "_law_pick" "_law_pick" (top 33) (He.ga K "_law_pick") fd33 := He5.fun_of F33
  have B33 : Binds K fd33 ["_law_dice_here", "_law_items"] [] := L2.Fun.binds U33 fun _ _ _ _ _ _ us hl => match us, hl with | [_, _], _ => rfl
  obtain ⟨fd34, F34⟩ := D.def_ 18 (d := d34) rfl
  have U34 : Fun K "_law_mixed" "_law_mixed" (top 34) (He.ga K "_law_mixed") fd34 := He5.fun_of F34
  have B34 : Binds K fd34 ["_law_dice_here", "_law_items"] [] := L2.Fun.binds U34 fun _ _ _ _ _ _ us hl => match us, hl with | [_, _], _ => rfl
  obtain ⟨fd35, F35⟩ := D.def_ 19 (d := d35) rfl
  have U35 : Fun K "_law_question" "_law_question" (top 35) (He.ga K "_law_question") fd35 := He5.fun_of F35
  have B35 : Binds K fd35 ["_law_clauses", "_law_asked_here"] [] := L2.Fun.binds U35 fun _ _ _ _ _ _ us hl => match us, hl with | [_, _], _ => rfl
  obtain ⟨fd36, F36⟩ := D.def_ 20 (d := d36) rfl
  have U36 : Fun K "_law_made" "_law_made" (top 36) (He.ga K "_law_made") fd36 := He5.fun_of F36
  have B36 : Binds K fd36 ["_law_plain"] [] := L2.Fun.binds U36 fun _ _ _ _ _ _ us hl => match us, hl with | [_], _ => rfl
  obtain ⟨fd37, F37⟩ := D.def_ 21 (d := d37) rfl
  have U37 : Fun K "_law_columns" "_law_columns" (top 37) (He.ga K "_law_columns") fd37 := He5.fun_of F37
  have B37 : Binds K fd37 ["_law_plain"] [] := L2.Fun.binds U37 fun _ _ _ _ _ _ us hl => match us, hl with | [_], _ => rfl
  obtain ⟨fd38, F38⟩ := D.def_ 22 (d := d38) rfl
  have U38 : Fun K "_law_widths" "_law_widths" (top 38) (He.ga K "_law_widths") fd38 := He5.fun_of F38
  have B38 : Binds K fd38 ["_law_plain"] [] := L2.Fun.binds U38 fun _ _ _ _ _ _ us hl => match us, hl with | [_], _ => rfl
  obtain ⟨fd39, F39⟩ := D.def_ 23 (d := d39) rfl
  have U39 : Fun K "_law_renamed" "_law_renamed" (top 39) (He.ga K "_law_renamed") fd39 := He5.fun_of F39
  have B39 : Binds K fd39 ["_law_plain", "_law_names_here"] [] := L2.Fun.binds U39 fun _ _ _ _ _ _ us hl => match us, hl with | [_, _], _ => rfl
  obtain ⟨fd40, F40⟩ := D.def_ 24 (d := d40) rfl
  have U40 : Fun K "_law_names" "_law_names" (top 40) (He.ga K "_law_names") fd40 := He5.fun_of F40
  have B40 : Binds K fd40 [] [] := L2.Fun.binds U40 fun _ _ _ _ _ _ us hl => match us, hl with | [], _ => rfl
  obtain ⟨fd41, F41⟩ := D.def_ 25 (d := d41) rfl
  have U41 : Fun K "_law_images" "_law_images" (top 41) (He.ga K "_law_images") fd41 := He5.fun_of F41
  have B41 : Binds K fd41 ["_law_dice_here", "_law_columns_here"] [] := L2.Fun.binds U41 fun _ _ _ _ _ _ us hl => match us, hl with | [_, _], _ => rfl
  obtain ⟨fd42, F42⟩ := D.def_ 26 (d := d42) rfl
  have U42 : Fun K "_law_asking" "_law_asking" (top 42) (He.ga K "_law_asking") fd42 := He5.fun_of F42
  have B42 : Binds K fd42 ["_law_dice_here", "_law_clauses", "_law_share"] [] := L2.Fun.binds U42 fun _ _ _ _ _ _ us hl => match us, hl with | [_, _, _], _ => rfl
  obtain ⟨fd43, F43⟩ := D.def_ 27 (d := d43) rfl
  have U43 : Fun K "_law_drawn" "_law_drawn" (top 43) (He.ga K "_law_drawn") fd43 := He5.fun_of F43
  have B43 : Binds K fd43 ["_law_dice_here", "_law_most", "_law_width", "_law_is_plain"] [] := L2.Fun.binds U43 fun _ _ _ _ _ _ us hl => match us, hl with | [_, _, _, _], _ => rfl
  obtain ⟨fd44, F44⟩ := D.def_ 28 (d := d44) rfl
  have U44 : Fun K "_law_tree" "_law_tree" (top 44) (He.ga K "_law_tree") fd44 := He5.fun_of F44
  have B44 : Binds K fd44 ["_law_dice_here", "_law_most"] [] := L2.Fun.binds U44 fun _ _ _ _ _ _ us hl => match us, hl with | [_, _], _ => rfl
  obtain ⟨fd45, F45⟩ := D.def_ 29 (d := d45) rfl
  have U45 : Fun K "_law_knotted" "_law_knotted" (top 45) (He.ga K "_law_knotted") fd45 := He5.fun_of F45
  have B45 : Binds K fd45 ["_law_dice_here"] [] := L2.Fun.binds U45 fun _ _ _ _ _ _ us hl => match us, hl with | [_], _ => rfl
  obtain ⟨fd46, F46⟩ := D.def_ 30 (d := d46) rfl
  have U46 : Fun K "_law_any" "_law_any" (top 46) (He.ga K "_law_any") fd46 := He5.fun_of F46
  have B46 : Binds K fd46 ["_law_dice_here", "_law_most"] [] := L2.Fun.binds U46 fun _ _ _ _ _ _ us hl => match us, hl with | [_, _], _ => rfl
  obtain ⟨fd47, F47⟩ := D.def_ 31 (d := d47) rfl
  have U47 : Fun K "_law_written" "_law_written" (top 47) (He.ga K "_law_written") fd47 := He5.fun_of F47
  have B47 : Binds K fd47 ["_law_way"] [] := L2.Fun.binds U47 fun _ _ _ _ _ _ us hl => match us, hl with | [_], _ => rfl
  obtain ⟨fd48, F48⟩ := D.def_ 32 (d := d48) rfl
  have U48 : Fun K "_law_asking_some" "_law_asking_some" (top 48) (He.ga K "_law_asking_some") fd48 := He5.fun_of F48
  have B48 : Binds K fd48 ["_law_question_here", "_law_columns_here"] [] := L2.Fun.binds U48 fun _ _ _ _ _ _ us hl => match us, hl with | [_, _], _ => rfl
  obtain ⟨fd49, F49⟩ := D.def_ 33 (d := d49) rfl
  have U49 : Fun K "_law_asked" "_law_asked" (top 49) (He.ga K "_law_asked") fd49 := He5.fun_of F49
  have B49 : Binds K fd49 ["_law_call"] [] := L2.Fun.binds U49 fun _ _ _ _ _ _ us hl => match us, hl with | [_], _ => rfl
  obtain ⟨fd50, F50⟩ := D.def_ 34 (d := d50) rfl
  have U50 : Fun K "_law_checked" "_law_checked" (top 50) (He.ga K "_law_checked") fd50 := He5.fun_of F50
  have B50 : Binds K fd50 ["_law_clauses", "_law_asked_here"] [] := L2.Fun.binds U50 fun _ _ _ _ _ _ us hl => match us, hl with | [_, _], _ => rfl
  obtain ⟨fd51, F51⟩ := D.def_ 35 (d := d51) rfl
  have U51 : Fun K "_law_first_ones" "_law_first_ones" (top 51) (He.ga K "_law_first_ones") fd51 := He5.fun_of F51
  have B51 : Binds K fd51 ["_law_items"] [] := L2.Fun.binds U51 fun _ _ _ _ _ _ us hl => match us, hl with | [_], _ => rfl
  obtain ⟨fd52, F52⟩ := D.def_ 36 (d := d52) rfl
  have U52 := funC_of (st := top 52) (p := ("_law_clauses_right", none)) F52
  have B52 : Binds K fd52 ["_law_dice_here", "_law_plain", "_law_question_here"] [] := L2.Fun.binds U52.fn fun _ _ _ _ _ _ us hl => match us, hl with | [_, _, _], _ => rfl
  obtain ⟨fd53, F53⟩ := D.def_ 37 (d := d53) rfl
  have U53 := funC_of (st := top 53) (p := ("_law_names_right", none)) F53
  have B53 : Binds K fd53 ["_law_dice_here", "_law_plain", "_law_question_here"] [] := L2.Fun.binds U53.fn fun _ _ _ _ _ _ us hl => match us, hl with | [_, _, _], _ => rfl
  obtain ⟨fd54, F54⟩ := D.def_ 38 (d := d54) rfl
  have U54 := funC_of (st := top 54) (p := ("_law_right", none)) F54
  have B54 : Binds K fd54 ["_law_dice_here"] [] := L2.Fun.binds U54.fn fun _ _ _ _ _ _ us hl => match us, hl with | [_], _ => rfl
  obtain ⟨fd55, F55⟩ := D.def_ 39 (d := d55) rfl
  have U55 : Fun K "law" "law" (top 55) (He.ga K "law") fd55 := He5.fun_of F55
  have B55 : Binds K fd55 ["_law_script"] [] := L2.Fun.binds U55 fun _ _ _ _ _ _ us hl => match us, hl with | [_], _ => rfl
  obtain ⟨fdm0, Fm0⟩ := D.def_ 40 (d := dm0) rfl
  have Um0 : Fun K "__init__" "Question.__init__" (sQ 0) (He.ma K (caQ K) "__init__") fdm0 := He5.fun_of Fm0
  have Bm0 : Binds K fdm0 ["self", "clauses", "asked"] [] := L2.Fun.binds Um0 fun _ _ _ _ _ _ us hl => match us, hl with | [_, _, _], _ => rfl
  obtain ⟨fdm11, Fm11⟩ := D.def_ 41 (d := dm11) rfl
  have Um11 : Fun K "index" "Question.index" (sQ 11) (He.ma K (caQ K) "index") fdm11 := He5.fun_of Fm11
  have Bm11 : Binds K fdm11 ["self", "clause"] [] := L2.Fun.binds Um11 fun _ _ _ _ _ _ us hl => match us, hl with | [_, _], _ => rfl
  obtain ⟨fdm13, Fm13⟩ := D.def_ 42 (d := dm13) rfl
  have Um13 : Fun K "with_clause" "Question.with_clause" (sQ 13) (He.ma K (caQ K) "with_clause") fdm13 := He5.fun_of Fm13
  have Bm13 : Binds K fdm13 ["self", "clause"] [] := L2.Fun.binds Um13 fun _ _ _ _ _ _ us hl => match us, hl with | [_, _], _ => rfl
  obtain ⟨fdm14, Fm14⟩ := D.def_ 43 (d := dm14) rfl
  have Um14 : Fun K "without_clause" "Question.without_clause" (sQ 14) (He.ma K (caQ K) "without_clause") fdm14 := He5.fun_of Fm14
  have Bm14 : Binds K fdm14 ["self", "clause"] [] := L2.Fun.binds Um14 fun _ _ _ _ _ _ us hl => match us, hl with | [_, _], _ => rfl
  obtain ⟨fdm15, Fm15⟩ := D.def_ 44 (d := dm15) rfl
  have Um15 : Fun K "asking" "Question.asking" (sQ 15) (He.ma K (caQ K) "asking") fdm15 := He5.fun_of Fm15
  obtain ⟨fdm16, Fm16⟩ := D.def_ 45 (d := dm16) rfl
  have Um16 : Fun K "renamed" "Question.renamed" (sQ 16) (He.ma K (caQ K) "renamed") fdm16 := He5.fun_of Fm16
  have Bm16 : Binds K fdm16 ["self", "names"] [] := L2.Fun.binds Um16 fun _ _ _ _ _ _ us hl => match us, hl with | [_, _], _ => rfl
  obtain ⟨fdm17, Fm17⟩ := D.def_ 46 (d := dm17) rfl
  have Um17 : Fun K "retabled" "Question.retabled" (sQ 17) (He.ma K (caQ K) "retabled") fdm17 := He5.fun_of Fm17
  have Bm17 : Binds K fdm17 ["self", "names"] [] := L2.Fun.binds Um17 fun _ _ _ _ _ _ us hl => match us, hl with | [_, _], _ => rfl
  obtain ⟨fdm18, Fm18⟩ := D.def_ 47 (d := dm18) rfl
  have Um18 : Fun K "folded" "Question.folded" (sQ 18) (He.ma K (caQ K) "folded") fdm18 := He5.fun_of Fm18
  have Bm18 : Binds K fdm18 ["self", "names"] [] := L2.Fun.binds Um18 fun _ _ _ _ _ _ us hl => match us, hl with | [_, _], _ => rfl
  obtain ⟨fdm19, Fm19⟩ := D.def_ 48 (d := dm19) rfl
  have Um19 : Fun K "__add__" "Question.__add__" (sQ 19) (He.ma K (caQ K) "__add__") fdm19 := He5.fun_of Fm19
  have Bm19 : Binds K fdm19 ["self", "other"] [] := L2.Fun.binds Um19 fun _ _ _ _ _ _ us hl => match us, hl with | [_, _], _ => rfl
  obtain ⟨fdm23, Fm23⟩ := D.def_ 49 (d := dm23) rfl
  have Um23 : Fun K "__eq__" "Question.__eq__" (sQ 23) (He.ma K (caQ K) "__eq__") fdm23 := He5.fun_of Fm23
  have Bm23 : Binds K fdm23 ["self", "other"] [] := L2.Fun.binds Um23 fun _ _ _ _ _ _ us hl => match us, hl with | [_, _], _ => rfl
  obtain ⟨fdm24, Fm24⟩ := D.def_ 50 (d := dm24) rfl
  have Um24 : Fun K "__str__" "Question.__str__" (sQ 24) (He.ma K (caQ K) "__str__") fdm24 := He5.fun_of Fm24
  have Bm24 : Binds K fdm24 ["self"] [] := L2.Fun.binds Um24 fun _ _ _ _ _ _ us hl => match us, hl with | [_], _ => rfl
  obtain ⟨fdg2, Fg2⟩ := cg.def_ 0 (d := dg2) rfl
  have Ug2 : Fun K "clauses" "Question.clauses" (sQ 2) (gG K "clauses") fdg2 := He5.fun_of Fg2
  have Bg2 : Binds K fdg2 ["self"] [] := L2.Fun.binds Ug2 fun _ _ _ _ _ _ us hl => match us, hl with | [_], _ => rfl
  obtain ⟨fdg3, Fg3⟩ := cg.def_ 1 (d := dg3) rfl
  have Ug3 : Fun K "asked" "Question.asked" (sQ 3) (gG K "asked") fdg3 := He5.fun_of Fg3
  have Bg3 : Binds K fdg3 ["self"] [] := L2.Fun.binds Ug3 fun _ _ _ _ _ _ us hl => match us, hl with | [_], _ => rfl
  have t1 : T1 K mg := ⟨(fr 44 rfl), (fr 45 rfl), (fr 46 rfl), (nt 66 rfl)⟩
  have t2 : T2 K mg _ _ := ⟨t1, (gl 4 rfl), F11.kp, (gl 6 rfl), F13.kp, (nt 63 rfl), (nt 62 rfl), (fr 47 rfl), (fr 48 rfl), (fr 49 rfl), (fr 50 rfl), (fr 51 rfl), (fr 52 rfl)⟩
  have t3 : T3 K mg _ _ _ := ⟨t2, (gl 7 rfl), F14.kp⟩
  have t4 : T4 K mg _ _ _ := ⟨t3, (fr 58 rfl)⟩
  have tz : TZ K mg := ⟨(fr 60 rfl), (fr 51 rfl)⟩
  have tc : TC K mg _ _ _ := ⟨t3, (nt 64 rfl), (nt 65 rfl)⟩
  have tl : TL K mg _ _ := ⟨(fr 45 rfl), (fr 53 rfl), (fr 54 rfl), (fr 47 rfl), (gl 20 rfl), F32.kp, (gl 21 rfl), F33.kp⟩
  have tm : TM K mg _ _ := ⟨tl, (fr 56 rfl), (fr 57 rfl)⟩
  have tq : TQ K mg := ⟨(fr 49 rfl), (fr 59 rfl), (fr 58 rfl), (fr 56 rfl)⟩
  have ta : TA K mg := ⟨tq, (fr 47 rfl)⟩
  have td : TD K mg := ⟨ta, (fr 57 rfl)⟩
  have tls : TLs K mg := ⟨ta, (fr 50 rfl)⟩
  have tfo : TFo mg := ⟨(fr 49 rfl), (fr 59 rfl), (fr 58 rfl)⟩
  have twi : TWi mg := ⟨(fr 49 rfl), (fr 59 rfl)⟩
  have gQ : mg "Question" = some (.ref (caQ K)) := (gl 0 rfl)
  have gIQ : mg "InvalidQuestion" = some (.ref (He.ga K "InvalidQuestion")) := (gl 1 rfl)
  obtain ⟨q1Q, q2Q, q3Q, q4Q⟩ := He.exc_ok (D.fact 84 (f := .exc "InvalidQuestion") rfl)
  have xvQ : XV K mg "InvalidQuestion" (He.ga K "InvalidQuestion") := ⟨⟨gIQ, q2Q, q3Q, q4Q⟩, q1Q⟩
  have gIC : mg "InvalidClause" = some (.ref (He.ga K "InvalidClause")) := (gl 2 rfl)
  obtain ⟨q1C, q2C, q3C, q4C⟩ := He.exc_ok (D.fact 85 (f := .exc "InvalidClause") rfl)
  have xvC : XV K mg "InvalidClause" (He.ga K "InvalidClause") := ⟨⟨gIC, q2C, q3C, q4C⟩, q1C⟩
  have gIO : mg "InvalidOperation" = some (.ref (He.ga K "InvalidOperation")) := (gl 3 rfl)
  obtain ⟨q1O, q2O, q3O, q4O⟩ := He.exc_ok (D.fact 86 (f := .exc "InvalidOperation") rfl)
  have xvO : XV K mg "InvalidOperation" (He.ga K "InvalidOperation") := ⟨⟨gIO, q2O, q3O, q4O⟩, q1O⟩
  have tqu : TQu K (caQ K) := ⟨He.cls_ok (D.fact 67 (f := .cls "Question") rfl), (na 68 rfl), (na 69 rfl), (na 70 rfl), (na 71 rfl)⟩
  have mk : Mk K (caQ K) (He.ma K (caQ K) "__init__") := He.mkr_ok (D.fact 83 (f := .mkr "Question") rfl)
  have tis : TIs K (caQ K) := ⟨of_decide_eq_true a1, of_decide_eq_true a2, of_decide_eq_true a3, of_decide_eq_true a4, of_decide_eq_true a5, of_decide_eq_true a6, of_decide_eq_true a7, of_decide_eq_true a8⟩
  have tn : TN K mg _ _ _ (He.ga K "InvalidOperation") := ⟨(fr 49 rfl), (gl 8 rfl), F15.kp, (gl 11 rfl), F18.kp, (gl 9 rfl), F16.kp, xvO⟩
  have tas : TAs K mg (He.ga K "InvalidClause") (He.ga K "InvalidQuestion") := ⟨(fr 56 rfl), gIC, gIQ, He.exm_ok (D.fact 87 (f := .exm "InvalidClause" "InvalidClause" true) rfl), He.exm_ok (D.fact 88 (f := .exm "InvalidQuestion" "InvalidClause" false) rfl), He.exm_ok (D.fact 89 (f := .exm "InvalidQuestion" "InvalidQuestion" true) rfl)⟩
  refine ⟨(gl 43 rfl), fd55, fun s u => ?_, fun base KB GB TBs => ?_⟩
  · obtain ⟨oc, od, kV, doc, pm, an, cdv, ct, osl, e, _, _⟩ := U55.ex
    subst e
    exact .of_eq rfl
  have G11 := ok_isInt (P := P) (w := w) (mg := mg) (base := base) U11 t1
  have G13 := ok_isWid (P := P) (w := w) (mg := mg) (base := base) U13 t2 G11 B11
  have G14 := ok_isNam (P := P) (w := w) (mg := mg) (base := base) U14 t2
  have G15 := ok_areNam (P := P) (w := w) (mg := mg) (base := base) U15 t3 G14 B14
  have G16 := ok_diff (P := P) (w := w) (mg := mg) (base := base) U16 t4
  have G17 := ok_isAsc (P := P) (w := w) (mg := mg) (base := base) U17 tz
  have G12 := ok_isPr (P := P) (w := w) (mg := mg) (base := base) U12 t3
  have G18 := ok_dFrom (P := P) (w := w) (mg := mg) (base := base) U18 t4
  have G19 := ok_naming (P := P) (w := w) (mg := mg) (base := base) U19 tn G15 B15 G18 B18 G16 B16
  have G23 := ok_isCl (P := P) (w := w) (mg := mg) (base := base) U23 t3 ⟨(gl 5 rfl), F12.kp⟩ G12 B12 G13 B13 G14 B14 ⟨(gl 8 rfl), F15.kp⟩ G15 B15
  have G24 := ok_colsOf2 (P := P) (w := w) (mg := mg) (base := base) U24 tq
  have G25 := ok_tabsOf (P := P) (w := w) (mg := mg) (base := base) U25 ta
  have G26 := ok_areCl2 (P := P) (w := w) (mg := mg) (base := base) U26 tc ⟨(gl 13 rfl), F23.kp⟩ G23 B23 ⟨(gl 10 rfl), F17.kp⟩ G17 B17 ⟨(gl 15 rfl), F25.kp⟩ G25 B25 ⟨(gl 14 rfl), F24.kp⟩ G24 B24
  have G27 := ok_areAsk2 (P := P) (w := w) (mg := mg) (base := base) U27 t2 ⟨(gl 8 rfl), F15.kp⟩ G15 B15 ⟨(gl 9 rfl), F16.kp⟩ G16 B16 ⟨(gl 14 rfl), F24.kp⟩ G24 B24
  have G28 := ok_first (P := P) (w := w) (mg := mg) (base := base) U28 (fr 49 rfl) (fr 61 rfl)
  have Gm0 := ok_init2 (P := P) (w := w) (mg := mg) (base := base) Um0 tqu xvQ ⟨(gl 16 rfl), F26.kp⟩ G26 B26 ⟨(gl 17 rfl), F27.kp⟩ G27 B27 ⟨(gl 15 rfl), F25.kp⟩ G25 B25 ⟨(gl 14 rfl), F24.kp⟩ G24 B24
  have Gg2 := ok_gClauses (P := P) (w := w) (mg := mg) (base := base) Ug2 tqu
  have Gg3 := ok_gAsked (P := P) (w := w) (mg := mg) (base := base) Ug3 tqu
  have Gm11 := ok_mIndexX (P := P) (w := w) (mg := mg) (base := base) Um11 tqu xvC
  have zI : OwnM P w K mg base (L2.CX P w) (caQ K) 1 "index" "clause" (spIndexX K (caQ K) (He.ga K "InvalidClause")) := ⟨⟨_, _, (mt 73 rfl), Gm11, Bm11⟩⟩
  have Gm13 := ok_with (P := P) (w := w) (mg := mg) (base := base) Um13 tqu twi xvC gQ mk Gm0 Bm0 ⟨(gl 13 rfl), F23.kp⟩ G23 B23
  have zW : OwnM P w K mg base (L2.CX P w) (caQ K) 7 "with_clause" "clause" (spWith K (caQ K) (He.ga K "InvalidClause") (He.ga K "InvalidQuestion")) := ⟨⟨_, _, (mt 74 rfl), Gm13, Bm13⟩⟩
  have Gm14 := ok_without (P := P) (w := w) (mg := mg) (base := base) Um14 tqu (fr 49 rfl) gQ mk Gm0 Bm0 zI ⟨(gl 14 rfl), F24.kp⟩ G24 B24
  have zO : OwnM P w K mg base (L2.CX P w) (caQ K) 7 "without_clause" "clause" (spWithout K (caQ K) (He.ga K "InvalidClause") (He.ga K "InvalidQuestion")) := ⟨⟨_, _, (mt 75 rfl), Gm14, Bm14⟩⟩
  have Gm15 := fn_asking (P := P) (w := w) (mg := mg) (base := base) Um15 tqu gQ mk Gm0 Bm0
  have Gm18 := ok_folded (P := P) (w := w) (mg := mg) (base := base) Um18 tqu tfo gQ mk Gm0 Bm0 ⟨(gl 11 rfl), F18.kp⟩ G18 B18 ⟨(gl 8 rfl), F15.kp⟩ G15 B15 ⟨(gl 18 rfl), F28.kp⟩ G28 B28
  have zF : OwnM P w K mg base CX0 (caQ K) 7 "folded" "names" (spFolded K (caQ K)) := ⟨⟨_, _, (mt 79 rfl), Gm18, Bm18⟩⟩
  have Gm16 := ok_renamed (P := P) (w := w) (mg := mg) (base := base) Um16 tqu ⟨(gl 12 rfl), F19.kp⟩ G19 B19 zF
  have zR : OwnM P w K mg base CX0 (caQ K) 8 "renamed" "names" (spRenamed K (caQ K)) := ⟨⟨_, _, (mt 77 rfl), Gm16, Bm16⟩⟩
  have Gm17 := ok_retab (P := P) (w := w) (mg := mg) (base := base) Um17 tqu twi gQ mk Gm0 Bm0 ⟨(gl 12 rfl), F19.kp⟩ G19 B19
  have zT : OwnM P w K mg base CX0 (caQ K) 7 "retabled" "names" (spRetab K (caQ K)) := ⟨⟨_, _, (mt 78 rfl), Gm17, Bm17⟩⟩
  have Gm19 := ok_add (P := P) (w := w) (mg := mg) (base := base) Um19 tqu tis tfo (fr 44 rfl) gQ mk Gm0 Bm0 ⟨(gl 18 rfl), F28.kp⟩ G28 B28
  have Gm23 := ok_mEq (P := P) (w := w) (mg := mg) (base := base) Um23 tqu tis (fr 44 rfl) gQ
  have Gm24 := ok_mStr (P := P) (w := w) (mg := mg) (base := base) Um24 tqu
  have ze : EqQ P w K mg base (caQ K) := ⟨⟨_, (mt 81 rfl).at_, (mt 81 rfl).fn, (Gm23.raw Bm23 .nil).imp fun vs H Q E h => by rw [List.append_nil]; exact h⟩, of_decide_eq_true b1, of_decide_eq_true a4, b2⟩
  have za : AddQ P w K mg base (caQ K) (He.ga K "InvalidQuestion") := ⟨⟨_, b3, (mt 80 rfl).at_, (mt 80 rfl).fn, (Gm19.raw Bm19 .nil).imp fun vs H Q E h => by rw [List.append_nil]; exact h⟩⟩
  have zs : StrQ P w K mg base (caQ K) := ⟨⟨_, (mt 82 rfl).at_, (mt 82 rfl).fn, (Gm24.raw Bm24 .nil).imp fun vs H Q E h => by rw [List.append_nil]; exact h⟩⟩
  have zc : Getter P w K mg base (caQ K) 1 "clauses" (getSp (caQ K) "_clauses") := ⟨⟨_, _, _, pr 0 rfl, Gg2, Bg2⟩⟩
  have zk : Getter P w K mg base (caQ K) 1 "asked" (getSp (caQ K) "_asked") := ⟨⟨_, _, _, pr 1 rfl, Gg3, Bg3⟩⟩
  have G31 := ok_dice (P := P) (w := w) (mg := mg) (base := base) U31 tl
  have G32 := ok_roll (P := P) (w := w) (mg := mg) (base := base) U32 tl
  have G33 := ok_pick (P := P) (w := w) (mg := mg) (base := base) U33 tl G32 B32
  have G34 := ok_mixed (P := P) (w := w) (mg := mg) (base := base) U34 tm G32 B32
  have G35 := ok_quest (P := P) (w := w) (mg := mg) (base := base) U35 tq
  have G37 := ok_cols (P := P) (w := w) (mg := mg) (base := base) U37 ta
  have Gc2 := ok_cols2 (P := P) (w := w) (mg := mg) (base := base) U37 ta
  have Gw2 := ok_lWid2 (P := P) (w := w) (mg := mg) (base := base) U38 tls
  have Gw3 := ok_lWid3 (P := P) (w := w) (mg := mg) (base := base) U38 tls
  have G40 := ok_names (P := P) (w := w) (mg := mg) (base := base) U40 
  have G42 := ok_asking (P := P) (w := w) (mg := mg) (base := base) U42 ta ⟨(gl 23 rfl), F35.kp⟩ G35 B35 ⟨(gl 25 rfl), F37.kp⟩ G37 B37 ⟨(gl 22 rfl), F34.kp⟩ G34 B34 ⟨(gl 20 rfl), F32.kp⟩ G32 B32
  have ld : LD P w K mg base _ _ _ _ _ _ _ _ _ _ := ⟨⟨(gl 20 rfl), F32.kp⟩, G32, B32, ⟨(gl 21 rfl), F33.kp⟩, G33, B33, ⟨(gl 22 rfl), F34.kp⟩, G34, B34, ⟨(gl 28 rfl), F40.kp⟩, G40, B40, ⟨(gl 30 rfl), F42.kp⟩, G42, B42⟩
  have G43 := ok_drawn (P := P) (w := w) (mg := mg) (base := base) U43 td ld
  have G44 := ok_tree (P := P) (w := w) (mg := mg) (base := base) U44 td ld
  have G45 := ok_knotted (P := P) (w := w) (mg := mg) (base := base) U45 td ld
  have G46 := ok_any (P := P) (w := w) (mg := mg) (base := base) U46 ⟨(gl 20 rfl), F32.kp⟩ G32 B32 ⟨(gl 32 rfl), F44.kp⟩ G44 B44 ⟨(gl 33 rfl), F45.kp⟩ G45 B45 ⟨(gl 31 rfl), F43.kp⟩ G43 B43
  have G47 := ok_written (P := P) (w := w) (mg := mg) (base := base) U47 ⟨(gl 23 rfl), F35.kp⟩ G35 B35
  have G36 := ok_madeZ (P := P) (w := w) (mg := mg) (base := base) U36 (fr 49 rfl) gQ mk Gm0 Bm0
  have G39 := ok_lRen (P := P) (w := w) (mg := mg) (base := base) U39 (fr 49 rfl) ⟨(gl 23 rfl), F35.kp⟩ G35 B35
  have G41 := ok_images (P := P) (w := w) (mg := mg) (base := base) U41 ⟨(gl 22 rfl), F34.kp⟩ G34 B34 ⟨(gl 28 rfl), F40.kp⟩ G40 B40
  have G48 := ok_asome (P := P) (w := w) (mg := mg) (base := base) U48 (fr 56 rfl) (fr 47 rfl) tqu (mt 76 rfl) Gm15
  have G50 := ok_chk (P := P) (w := w) (mg := mg) (base := base) U50 (fr 47 rfl) ⟨(gl 23 rfl), F35.kp⟩ G35 B35 ⟨(gl 26 rfl), F38.kp⟩ Gw2 B38 ⟨(gl 25 rfl), F37.kp⟩ Gc2 B37
  have G51 := ok_lFo (P := P) (w := w) (mg := mg) (base := base) U51 
  have lr : LR P w K mg base _ _ _ _ _ _ _ _ _ _ := ⟨⟨(gl 34 rfl), F46.kp⟩, G46, B46, ⟨(gl 21 rfl), F33.kp⟩, G33, B33, ⟨(gl 38 rfl), F50.kp⟩, G50, B50, ⟨(gl 25 rfl), F37.kp⟩, Gc2, B37, ⟨(gl 37 rfl), F49.kp⟩, U49, B49⟩
  have tbA : LamX.TabB base mg (tA K).1 (tA K).2 := TBs _ List.mem_cons_self
  have tbB : LamX.TabB base mg (tB K).1 (tB K).2 := TBs _ (List.mem_cons_of_mem _ List.mem_cons_self)
  have tbC : LamX.TabB base mg (tC0 K).1 (tC0 K).2 := TBs _ (List.mem_cons_of_mem _ (List.mem_cons_of_mem _ List.mem_cons_self))
  have G52 := ok_cr (T := T0 K) (P := P) (w := w) (mg := mg) (base := base) U52 lr tas tqu zc zk zW zO tbA hTa
  have ln : LN P w K mg base (caQ K) _ _ _ _ _ _ _ _ _ _ _ _ _ _ _ _ _ _ := ⟨(fr 47 rfl), (fr 56 rfl), (fr 50 rfl), (fr 60 rfl), ⟨(gl 25 rfl), F37.kp⟩, Gc2, B37, ⟨(gl 26 rfl), F38.kp⟩, Gw3, B38, ⟨(gl 29 rfl), F41.kp⟩, G41, B41, ⟨(gl 37 rfl), F49.kp⟩, U49, B49, ⟨(gl 27 rfl), F39.kp⟩, G39, B39, ⟨(gl 22 rfl), F34.kp⟩, G34, B34, ⟨(gl 21 rfl), F33.kp⟩, G33, B33, ⟨(gl 23 rfl), F35.kp⟩, G35, B35, ⟨(gl 39 rfl), F51.kp⟩, G51, B51, zR, zF, zT⟩
  have G53 := ok_nr (T := T0 K) (P := P) (w := w) (mg := mg) (base := base) U53 ln tas tqu ze zc zk tbB hTb
  have lr2 : LR2 P w K mg base (caQ K) (T0 K) _ _ _ _ _ _ _ _ _ _ _ _ _ _ _ _ _ _ _ _ _ _ := ⟨⟨(gl 34 rfl), F46.kp⟩, G46, B46, ⟨(gl 24 rfl), F36.kp⟩, G36, B36, ⟨(gl 40 rfl), F52.kp⟩, G52, B52, ⟨(gl 41 rfl), F53.kp⟩, G53, B53, ⟨(gl 22 rfl), F34.kp⟩, G34, B34, ⟨(gl 25 rfl), F37.kp⟩, Gc2, B37, ⟨(gl 20 rfl), F32.kp⟩, G32, B32, ⟨(gl 37 rfl), F49.kp⟩, U49, B49, ⟨(gl 36 rfl), F48.kp⟩, G48, B48, ⟨(gl 39 rfl), F51.kp⟩, G51, B51, ⟨(gl 38 rfl), F50.kp⟩, G50, B50⟩
  have G54 := ok_rt (P := P) (w := w) (mg := mg) (base := base) U54 lr2 tas tqu ze za zc zk tbC hTc
  have ll : LLa P w K mg base (caQ K) (He.ga K "InvalidClause") (He.ga K "InvalidQuestion") (T0 K) _ _ _ _ _ _ _ _ := ⟨(fr 47 rfl), (fr 54 rfl), (fr 55 rfl), (fr 57 rfl), (fr 48 rfl), ⟨(gl 19 rfl), F31.kp⟩, G31, B31, ⟨(gl 42 rfl), F54.kp⟩, G54, B54, ⟨(gl 24 rfl), F36.kp⟩, G36, B36, ⟨(gl 35 rfl), F47.kp⟩, G47, B47, tqu.cl, zO, zF⟩
  exact ok_law (P := P) (w := w) (mg := mg) (base := base) U55 ll zs za
theorem walk_ofG {l : PySem.W.OpenLaw} {n k : Nat} {q : Program} {loose : List Str} {XP : (Str → Option Value) → Heap → Prop} {YP : World → Heap → Prop} {d : DefRec} {CX : CXT} {x : Str}
    (hn : l.most = some n) (hn2 : n ≤ sizeLine) (hdf : d.params.defaults = []) (hr : Room k callerA)
    (F : ∀ (w : World) (mg : Str → Option Value) (fa : Addr) (h : Heap), YP w h → h.Ns mainGlobals mg → mg d.name = some (.ref fa) → ∃ (K : PySem.W.Frag) (fd : FuncData) (cs : List (Addr × Addr)) (sp : Sp), K.In h ∧ (∀ p ∈ cs, h.get? p.2 = some { cls := .none, data := .fields #[] }) ∧ (∀ p ∈ cs, K.lookup p.2 = none) ∧
      (∀ p ∈ cs, PySem.W.CodeHd h p.1 p.2) ∧ (∀ (s : Shared) (u : Value), BindsTo s fd ⟨[u], []⟩ [(x, u)]) ∧ (∀ (H : Hp) (a : Addr) (ns : List Int), (∀ p ∈ cs, H p.2 = some (.tbl #[])) → SqL K H a (ns.map V.int) → sp [.ref a] H (fun v _ => v = .bl true) fun _ _ _ => False) ∧
      ∀ base : Heap, K.In base → base.Ns mainGlobals mg → (∀ p ∈ cs, LamX.TabB base mg p.1 p.2) → FnG l.prog w K mg base CX k fa fd [x] sp)
    (hCX : ∀ (H : Hp) (s : Shared) (e : Value) (s' : Shared), CX [] H s (fun _ _ _ => False) e s' → False) : PySem.W.WalkO q loose XP YP l.row.toRowW d [] (fun f vs => PySem.call f vs) := by
  refine Att.attach_callB hn hdf fun w s0 s1 mg mb fa o pm cd doc a vs ns G Y ho hd hcd hmg hobj hints hlen _ hg => ?_
  obtain ⟨K, fd, cs, sp, KX, hT, nT, C, hb, hsp, hF⟩ := F w mg fa _ Y G.T.g hmg
  have back : ∀ q ∈ cs.map (·.2), ∃ p ∈ cs, p.2 = q := fun q hq => List.mem_map.mp hq
  have Fo : Fore K mg mb (cs.map (·.2)) a vs ns s1 := ⟨KX, G.T.g, G.T.b, G.T.builtins, G.T.nolimit, hg, fun q hq => by
    obtain ⟨p, hp, e⟩ := back q hq
    rw [← e]
    exact hT p hp, fun q hq => by
    obtain ⟨p, hp, e⟩ := back q hq
    rw [← e]
    exact nT p hp, G.T.bmain, hobj, hints, Nat.le_trans hlen hn2⟩
  exact law_callG (cs := cs) Fo (fun p hp => ⟨List.mem_map.mpr ⟨p, hp, rfl⟩, C p hp⟩) (fun q hq => by
    obtain ⟨p, hp, e⟩ := back q hq
    rw [← e]
    exact ⟨p.1, C p hp⟩) hr hF hb (fun H hH hS => hsp H a ns (fun p hp => hH _ (List.mem_map.mpr ⟨p, hp, rfl⟩)) hS) fun H e s' => hCX H s1 e s'
end K0

/-! ## U3 -/
set_option maxRecDepth 100000
set_option maxHeartbeats 0
open PySem PySem.W PySem.Calls PyProof.Rows
theorem PySem.Challenge.cw_joinhouse_k04_whole_questions_changed_holds : PySem.Challenge.rw_joinhouse_k04_whole_questions_changed.Holds := by
  w_on; o_law
  refine HandSHeadRun.head_imp (r := OpenLaw.row PySem.Challenge.rw_joinhouse_k04_whole_questions_changed) (q := view (OpenLaw.row PySem.Challenge.rw_joinhouse_k04_whole_questions_changed).prog [55]) (H := K0.hkY) (ob := K0.ob0) (M := 60000) (loose := K0.loose0)
    (d := HandSHeadRun.topDef (OpenLaw.row PySem.Challenge.rw_joinhouse_k04_whole_questions_changed).prog 55) (kwd := []) K0.ob0_eq K0.run0 (by kernel_rfl) (by kernel_rfl) (by kernel_rfl) (by rfl) (by first | assumption | decide +kernel) (by decide +kernel) ⟨rfl, rfl, rfl, rfl, rfl, by decide +kernel⟩ ?hw ?hc
  case hw => w_witness2
  case hc =>
    refine K0.walk_ofG (l := PySem.Challenge.rw_joinhouse_k04_whole_questions_changed) (n := 63) (k := 13) (x := "_law_script") (CX := L2.CX0) rfl (by decide) (by kernel_rfl) ⟨rfl, by decide, by decide⟩ ?F (fun _ _ _ _ z => z)
    intro w mg fa h Y G hmg0
    obtain ⟨K, KX, c, cg⟩ := Y
    have hmg : mg ("law" : PySem.Str) = some (.ref fa) := by
      have e : (HandSHeadRun.topDef (OpenLaw.row PySem.Challenge.rw_joinhouse_k04_whole_questions_changed).prog 55).name = ("law" : PySem.Str) := by kernel_rfl
      rw [← e]
      exact hmg0
    obtain ⟨gL, fd, hb, hF⟩ := K0.facts (P := (PySem.Challenge.rw_joinhouse_k04_whole_questions_changed).prog) (w := w) KX G c cg
    have ea : fa = He.ga K "law" := by
      rw [hmg] at gL
      cases gL
      rfl
    subst ea
    have mem : ∀ p ∈ K0.cs0 K, ∃ q ∈ K0.tf0, p = He.cT K q := fun p hp => by
      rcases List.mem_cons.mp hp with e | hp
      · exact ⟨_, List.mem_cons_self, e⟩
      rcases List.mem_cons.mp hp with e | hp
      · exact ⟨_, List.mem_cons_of_mem _ List.mem_cons_self, e⟩
      · exact ⟨_, List.mem_cons_of_mem _ (List.mem_cons_of_mem _ List.mem_cons_self), List.mem_singleton.mp hp⟩
    refine ⟨K, fd, K0.cs0 K, K0.spLaw K (K0.T0 K), KX, fun p hp => ?_, fun p hp => ?_, fun p hp => ?_, hb, fun H a ns hH hS => ⟨a, ns, rfl, hS, fun p hp => ?_, fun _ => rfl⟩, hF⟩
    · obtain ⟨q, hq, rfl⟩ := mem p hp
      exact c.empty q hq
    · obtain ⟨q, hq, rfl⟩ := mem p hp
      exact c.out q hq
    · obtain ⟨q, hq, rfl⟩ := mem p hp
      exact PySem.W.codeHd_of_K KX (c.hd q hq)
    · have e : H p.1 = some (.tbl #[]) := by
        rcases List.mem_cons.mp hp with e | hp
        · rw [e]
          exact hH (K0.tA K) List.mem_cons_self
        rcases List.mem_cons.mp hp with e | hp
        · rw [e]
          exact hH (K0.tB K) (List.mem_cons_of_mem _ List.mem_cons_self)
        · rw [List.mem_singleton.mp hp]
          exact hH (K0.tC0 K) (List.mem_cons_of_mem _ (List.mem_cons_of_mem _ List.mem_cons_self))
      exact ⟨#[], e, by first | exact True.intro | decide | simp [TriplesOk], fun pos cv z => by cases z⟩

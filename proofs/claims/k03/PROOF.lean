import PyProof.Rows.All
import Wide.All
import OpenK.AllK
import Wide.FinOn
import HandS.ForMost
import HandS.IsInst
import HandS.Wide
import HandS.Words
import HandS.Head0
import HandS.Head1
import HandS.Head2
import HandS.Head3
import HandS.HeadHook4
import HandS.HeadNt
import HandS.ExcField
import KE.KExcInit
import HandS.SetFor
import HandS.Strs
import HandS.ListItems
import KE.KDictSum
import HandS.Walk
import HandS.ForExc
import HandS.ExcIs
import HandS.ExcValue
import HandS.TryMany
import HandS.TupSets
import KE.KeyNested
import HandS.SortOrd
import HandS.SortRule
import HandS.TupLe
import KE.KSortTup
import PyProof.Rows.SortKeyStr
import PyProof.ListStr
import PyProof.TupleOfStr
import HandS.More
import HandS.OwnEq
import HandS.SlotsOwn
import KE.KCallOwn
import HandS.IterVal
import HandS.OwnIter
import HandS.Zip
import HandS.TupAny
import HandS.DictComp
import HandS.Deep
import KE.GoesZip
import KE.GoesMore
import HandS.CallLocal
import HandS.ClsMeth
import HandS.StrMore
import HandS.Property
import HandS.Star
import HandS.TryOnly
import HandS.HotCalls
import HandS.Lambda
import PyProof.ReprRoads
import PyProof.ReprLen
import HandS.DeepEq
import HandS.Codes
import HandS.EndTab
import PySem.Challenge.RW_joinhouse_k03_whole_lines_of_questions
set_option Elab.async false
set_option linter.all false
/-! ## A1 -/
set_option maxRecDepth 100000
set_option maxHeartbeats 2000000
namespace K0
open PySem L2
abbrev tx : List Stmt := PySem.Challenge.pw_joinhouse_k03_whole_lines_of_questions.main.body
def top (i : Nat) : Stmt := tx.getD i (.Pass ⟨0, 0, 0, 0⟩)
abbrev sIsInt : Stmt := top 10
abbrev sIsCnt : Stmt := top 999
abbrev sIsWid : Stmt := top 12
/-- plain data as arguments -/
inductive Da (H : Hp) : V → Prop where
  | non : Da H .non
  | bl (b : Bool) : Da H (.bl b)
  | int (i : Int) : Da H (.int i)
  | str (x : Str) : Da H (.str x)
  | lst {a : Addr} {xs : List V} (h : H a = some (.lst xs)) : Da H (.ref a)
  | tup {a : Addr} {xs : List V} (h : H a = some (.tup xs)) : Da H (.ref a)
  | dK {a : Addr} {kvs : List (Key × V)} (h : H a = some (.dK kvs)) : Da H (.ref a)
def tyN (H : Hp) : V → String
  | .non => "NoneType"
  | .bl _ => "bool"
  | .int _ => "int"
  | .str _ => "str"
  | .ref a => match H a with
    | some (.lst _) => "list"
    | some (.tup _) => "tuple"
    | _ => "dict"
  | _ => ""
theorem Da.ty {K : PySem.W.Frag} {H : Hp} {v : V} (d : Da H v) : TyX K H v (.type (tyN H v)) := by
  cases d with
  | non => exact .base .non
  | bl b => exact .base (.bl b)
  | int i => exact .base (.int i)
  | str x => exact .base (.str x)
  | lst h => simp only [tyN, h]; exact .base (.lst h)
  | tup h => simp only [tyN, h]; exact .base (.tup h)
  | dK h => simp only [tyN, h]; exact .base (.dK h)
/-- an integer of at most sixty figures -/
@[irreducible] def big : Int := 10 ^ 60
def isI : V → Bool
  | .int i => decide (-big < i) && decide (i < big)
  | _ => false
def spIsInt : Sp := fun vs H Q _ => ∃ v, vs = [v] ∧ Da H v ∧ Q (.bl (isI v)) H
structure T1 (K : PySem.W.Frag) (mg : Str → Option Value) : Prop where
  isi : mg "isinstance" = none
  int : mg "int" = none
  bool : mg "bool" = none
  long : ∃ t, mg "_TOO_LONG" = some (.int big t)
theorem if_pos_of {c : Bool} {A B : Prop} (hc : c = true) (h : A) : if c = true then A else B := by
  rw [if_pos hc]
  exact h
theorem if_neg_of {c : Bool} {A B : Prop} (hc : c = false) (h : B) : if c = true then A else B := by
  rw [hc, if_neg Bool.false_ne_true]
  exact h
section
variable {P : Program} {w : World} {K : PySem.W.Frag} {mg : Str → Option Value} {base : Heap}
theorem scIsInt : FnScope ["value"] ["value"] (defScope sIsInt) := ⟨rfl, rfl, rfl, by decide +kernel, rfl, by decide +kernel, by decide +kernel⟩
theorem ok_isInt {f : Addr} {fd : FuncData} (F : Fun K "is_integer" "is_integer" sIsInt f fd) (T : T1 K mg) : FnOk P w K mg base CX0 1 f fd ["value"] spIsInt := by
  refine F.ok scIsInt (fun vs H Q E h => ?_) (fun cdv A outer s H vs Q E hr h => ?_)
  · obtain ⟨v, rfl, _⟩ := h
    rfl
  · obtain ⟨v, rfl, d, k⟩ := h
    obtain ⟨t, hl⟩ := T.long
    refine ⟨_, pss_one (ps_ret (pe_and (pe_callB call_isi (by rfl) T.isi (by decide +kernel) (pa_cons (pv 0) (pa_cons (pe_bltn (v := .ty "int") (by rfl) T.int (by decide +kernel) rfl) pa_nil)))
      (pe_and (pe_not (pe_callB call_isi (by rfl) T.isi (by decide +kernel) (pa_cons (pv 0) (pa_cons (pe_bltn (v := .ty "bool") (by rfl) T.bool (by decide +kernel) rfl) pa_nil))))
        (pe_one (pe_chain op_lt op_lt (pe_un un_neg (pe_glob (v := .int big) (by rfl) hl ⟨t, rfl⟩)) (pv 0) (pe_glob (v := .int big) (by rfl) hl ⟨t, rfl⟩)))))), ?_⟩
    cases d with
    | int i =>
      refine ⟨_, rfl, _, _, _, _, true, rfl, .ty _, .base (.int i), kit_ty (by decide +kernel), true, rfl, iteT ?_⟩
      refine ⟨_, rfl, _, _, _, _, false, rfl, .ty _, .base (.int i), kit_ty (by decide +kernel), false, rfl, true, rfl, iteT ?_⟩
      refine ⟨_, rfl, _, rfl, _, _, rfl, rfl, _, rfl, ?_⟩
      by_cases c1 : -big < i
      · refine if_pos_of (decide_eq_true c1) ⟨_, _, rfl, rfl, ?_⟩
        have e : isI (.int i) = decide (i < big) := by simp [isI, c1]
        rw [e] at k
        exact k
      · refine if_neg_of (decide_eq_false c1) ?_
        have e : isI (.int i) = false := by simp [isI, c1]
        rw [e] at k
        exact k
    | bl b =>
      refine ⟨_, rfl, _, _, _, _, true, rfl, .ty _, .base (.bl b), kit_ty (by decide +kernel), true, rfl, iteT ?_⟩
      refine ⟨_, rfl, _, _, _, _, true, rfl, .ty _, .base (.bl b), kit_ty (by decide +kernel), true, rfl, false, rfl, iteF ?_⟩
      exact k
    | non => exact ⟨_, rfl, _, _, _, _, false, rfl, .ty _, .base .non, kit_ty (by decide +kernel), false, rfl, iteF k⟩
    | str x => exact ⟨_, rfl, _, _, _, _, false, rfl, .ty _, .base (.str x), kit_ty (by decide +kernel), false, rfl, iteF k⟩
    | lst e => exact ⟨_, rfl, _, _, _, _, false, rfl, .ty _, .base (.lst e), kit_ty (by decide +kernel), false, rfl, iteF k⟩
    | tup e => exact ⟨_, rfl, _, _, _, _, false, rfl, .ty _, .base (.tup e), kit_ty (by decide +kernel), false, rfl, iteF k⟩
    | dK e => exact ⟨_, rfl, _, _, _, _, false, rfl, .ty _, .base (.dK e), kit_ty (by decide +kernel), false, rfl, iteF k⟩
end
end K0

/-! ## U0 -/
set_option maxRecDepth 100000
set_option maxHeartbeats 0
namespace K0
open PySem L2
/-! ### the head: what is looked at when the top has run -/
def loose0a : List PySem.Str := [("JoinError" : PySem.Str), ("InvalidQuestion" : PySem.Str), ("InvalidClause" : PySem.Str), ("ParseError" : PySem.Str), ("Question" : PySem.Str), ("MAX_LETTERS" : PySem.Str), ("MAX_WIDTH" : PySem.Str), ("_TOO_LONG" : PySem.Str), ("MAX_CLAUSES" : PySem.Str), ("MAX_COLUMNS" : PySem.Str), ("_wall" : PySem.Str), ("_first_ones" : PySem.Str), ("is_integer" : PySem.Str), ("is_pair" : PySem.Str)]
def loose0b : List PySem.Str := [("is_width" : PySem.Str), ("is_name" : PySem.Str), ("are_names" : PySem.Str), ("are_different" : PySem.Str), ("is_ascending" : PySem.Str), ("words_of" : PySem.Str), ("is_clause" : PySem.Str), ("_columns_of" : PySem.Str), ("_tables_of" : PySem.Str), ("_are_clauses" : PySem.Str), ("_are_asked" : PySem.Str), ("_clause_or_asked" : PySem.Str), ("_law_dice" : PySem.Str), ("_law_roll" : PySem.Str)]
def loose0c : List PySem.Str := [("_law_pick" : PySem.Str), ("_law_mixed" : PySem.Str), ("_law_question" : PySem.Str), ("_law_made" : PySem.Str), ("_law_columns" : PySem.Str), ("_law_widths" : PySem.Str), ("_law_names" : PySem.Str), ("_law_asking" : PySem.Str), ("_law_drawn" : PySem.Str), ("_law_tree" : PySem.Str), ("_law_knotted" : PySem.Str), ("_law_any" : PySem.Str), ("_law_lined_question" : PySem.Str), ("_law_question_lines" : PySem.Str)]
def loose0d : List PySem.Str := [("_law_is_word" : PySem.Str), ("_law_read" : PySem.Str), ("_law_due" : PySem.Str), ("_law_told" : PySem.Str), ("_law_changed" : PySem.Str)]
def loose0 : List PySem.Str := loose0a ++ loose0b ++ loose0c ++ loose0d
def fa0a : List He.Fa := [.glo ("Question" : PySem.Str), .glo ("ParseError" : PySem.Str), .glo ("InvalidQuestion" : PySem.Str), .glo ("is_integer" : PySem.Str), .glo ("is_pair" : PySem.Str), .glo ("is_width" : PySem.Str), .glo ("is_name" : PySem.Str), .glo ("are_names" : PySem.Str), .glo ("are_different" : PySem.Str), .glo ("is_ascending" : PySem.Str)]
def fa0b : List He.Fa := [.glo ("words_of" : PySem.Str), .glo ("is_clause" : PySem.Str), .glo ("_columns_of" : PySem.Str), .glo ("_tables_of" : PySem.Str), .glo ("_are_clauses" : PySem.Str), .glo ("_are_asked" : PySem.Str), .glo ("_clause_or_asked" : PySem.Str), .glo ("_law_dice" : PySem.Str), .glo ("_law_roll" : PySem.Str), .glo ("_law_pick" : PySem.Str)]
def fa0c : List He.Fa := [.glo ("_law_mixed" : PySem.Str), .glo ("_law_question" : PySem.Str), .glo ("_law_made" : PySem.Str), .glo ("_law_columns" : PySem.Str), .glo ("_law_widths" : PySem.Str), .glo ("_law_names" : PySem.Str), .glo ("_law_asking" : PySem.Str), .glo ("_law_drawn" : PySem.Str), .glo ("_law_tree" : PySem.Str), .glo ("_law_knotted" : PySem.Str)]
def fa0d : List He.Fa := [.glo ("_law_any" : PySem.Str), .glo ("_law_lined_question" : PySem.Str), .glo ("_law_question_lines" : PySem.Str), .glo ("_law_is_word" : PySem.Str), .glo ("_law_read" : PySem.Str), .glo ("_law_due" : PySem.Str), .glo ("_law_told" : PySem.Str), .glo ("_law_changed" : PySem.Str), .glo ("law" : PySem.Str), .free ("isinstance" : PySem.Str)]
def fa0e : List He.Fa := [.free ("int" : PySem.Str), .free ("bool" : PySem.Str), .free ("len" : PySem.Str), .free ("str" : PySem.Str), .free ("tuple" : PySem.Str), .free ("dict" : PySem.Str), .free ("all" : PySem.Str), .free ("any" : PySem.Str), .free ("abs" : PySem.Str), .free ("max" : PySem.Str)]
def fa0f : List He.Fa := [.free ("min" : PySem.Str), .free ("list" : PySem.Str), .free ("range" : PySem.Str), .free ("set" : PySem.Str), .free ("repr" : PySem.Str), .free ("sorted" : PySem.Str), .free ("zip" : PySem.Str), .free ("enumerate" : PySem.Str), .int ("MAX_LETTERS" : PySem.Str) 8, .int ("MAX_WIDTH" : PySem.Str) 8]
def fa0g : List He.Fa := [.int ("MAX_CLAUSES" : PySem.Str) 8, .int ("MAX_COLUMNS" : PySem.Str) 8, .int ("_TOO_LONG" : PySem.Str) big, .cls ("Question" : PySem.Str), .noat "Question" ("_clauses" : PySem.Str), .noat "Question" ("_asked" : PySem.Str), .noat "Question" ("_columns" : PySem.Str), .noat "Question" ("_tables" : PySem.Str), .meth "Question" ("__init__" : PySem.Str), .mkr ("Question" : PySem.Str)]
def fa0h : List He.Fa := [.exc ("InvalidQuestion" : PySem.Str), .exm ("ParseError" : PySem.Str) ("ParseError" : PySem.Str) true, .exm ("InvalidQuestion" : PySem.Str) ("ParseError" : PySem.Str) false, .exm ("InvalidQuestion" : PySem.Str) ("InvalidQuestion" : PySem.Str) true]
def fa0 : List He.Fa := fa0a ++ fa0b ++ fa0c ++ fa0d ++ fa0e ++ fa0f ++ fa0g ++ fa0h
def d10 : He.DefD := ⟨("is_integer", none), "is_integer", "is_integer", defArgs (top 10), defBody (top 10), defScope (top 10), [], []⟩
def d11 : He.DefD := ⟨("is_pair", none), "is_pair", "is_pair", defArgs (top 11), defBody (top 11), defScope (top 11), [], []⟩
def d12 : He.DefD := ⟨("is_width", none), "is_width", "is_width", defArgs (top 12), defBody (top 12), defScope (top 12), [], []⟩
def d13 : He.DefD := ⟨("is_name", none), "is_name", "is_name", defArgs (top 13), defBody (top 13), defScope (top 13), [], []⟩
def d14 : He.DefD := ⟨("are_names", none), "are_names", "are_names", defArgs (top 14), defBody (top 14), defScope (top 14), [], []⟩
def d15 : He.DefD := ⟨("are_different", none), "are_different", "are_different", defArgs (top 15), defBody (top 15), defScope (top 15), [], []⟩
def d16 : He.DefD := ⟨("is_ascending", none), "is_ascending", "is_ascending", defArgs (top 16), defBody (top 16), defScope (top 16), [], []⟩
def d17 : He.DefD := ⟨("words_of", none), "words_of", "words_of", defArgs (top 17), defBody (top 17), defScope (top 17), [], []⟩
def d21 : He.DefD := ⟨("is_clause", none), "is_clause", "is_clause", defArgs (top 21), defBody (top 21), defScope (top 21), [], []⟩
def d22 : He.DefD := ⟨("_columns_of", none), "_columns_of", "_columns_of", defArgs (top 22), defBody (top 22), defScope (top 22), [], []⟩
def d23 : He.DefD := ⟨("_tables_of", none), "_tables_of", "_tables_of", defArgs (top 23), defBody (top 23), defScope (top 23), [], []⟩
def d24 : He.DefD := ⟨("_are_clauses", none), "_are_clauses", "_are_clauses", defArgs (top 24), defBody (top 24), defScope (top 24), [], []⟩
def d25 : He.DefD := ⟨("_are_asked", none), "_are_asked", "_are_asked", defArgs (top 25), defBody (top 25), defScope (top 25), [], []⟩
def d27 : He.DefD := ⟨("_clause_or_asked", none), "_clause_or_asked", "_clause_or_asked", defArgs (top 27), defBody (top 27), defScope (top 27), [], []⟩
def d30 : He.DefD := ⟨("_law_dice", none), "_law_dice", "_law_dice", defArgs (top 30), defBody (top 30), defScope (top 30), [], []⟩
def d31 : He.DefD := ⟨("_law_roll", none), "_law_roll", "_law_roll", defArgs (top 31), defBody (top 31), defScope (top 31), [], []⟩
def d32 : He.DefD := ⟨("_law_pick", none), "_law_pick", "_law_pick", defArgs (top 32), defBody (top 32), defScope (top 32), [], []⟩
def d33 : He.DefD := ⟨("_law_mixed", none), "_law_mixed", "_law_mixed", defArgs (top 33), defBody (top 33), defScope (top 33), [], []⟩
def d34 : He.DefD := ⟨("_law_question", none), "_law_question", "_law_question", defArgs (top 34), defBody (top 34), defScope (top 34), [], []⟩
def d35 : He.DefD := ⟨("_law_made", none), "_law_made", "_law_made", defArgs (top 35), defBody (top 35), defScope (top 35), [], []⟩
def d36 : He.DefD := ⟨("_law_columns", none), "_law_columns", "_law_columns", defArgs (top 36), defBody (top 36), defScope (top 36), [], []⟩
def d37 : He.DefD := ⟨("_law_widths", none), "_law_widths", "_law_widths", defArgs (top 37), defBody (top 37), defScope (top 37), [], []⟩
def d38 : He.DefD := ⟨("_law_names", none), "_law_names", "_law_names", defArgs (top 38), defBody (top 38), defScope (top 38), [], []⟩
def d39 : He.DefD := ⟨("_law_asking", none), "_law_asking", "_law_asking", defArgs (top 39), defBody (top 39), defScope (top 39), [], []⟩
def d40 : He.DefD := ⟨("_law_drawn", none), "_law_drawn", "_law_drawn", defArgs (top 40), defBody (top 40), defScope (top 40), [], []⟩
def d41 : He.DefD := ⟨("_law_tree", none), "_law_tree", "_law_tree", defArgs (top 41), defBody (top 41), defScope (top 41), [], []⟩
def d42 : He.DefD := ⟨("_law_knotted", none), "_law_knotted", "_law_knotted", defArgs (top 42), defBody (top 42), defScope (top 42), [], []⟩
def d43 : He.DefD := ⟨("_law_any", none), "_law_any", "_law_any", defArgs (top 43), defBody (top 43), defScope (top 43), [], []⟩
def d44 : He.DefD := ⟨("_law_lined_question", none), "_law_lined_question", "_law_lined_question", defArgs (top 44), defBody (top 44), defScope (top 44), [], []⟩
def d45 : He.DefD := ⟨("_law_question_lines", none), "_law_question_lines", "_law_question_lines", defArgs (top 45), defBody (top 45), defScope (top 45), [], []⟩
def d46 : He.DefD := ⟨("_law_is_word", none), "_law_is_word", "_law_is_word", defArgs (top 46), defBody (top 46), defScope (top 46), [], []⟩
def d47 : He.DefD := ⟨("_law_read", none), "_law_read", "_law_read", defArgs (top 47), defBody (top 47), defScope (top 47), [], []⟩
def d48 : He.DefD := ⟨("_law_due", none), "_law_due", "_law_due", defArgs (top 48), defBody (top 48), defScope (top 48), [], []⟩
def d49 : He.DefD := ⟨("_law_told", none), "_law_told", "_law_told", defArgs (top 49), defBody (top 49), defScope (top 49), [], []⟩
def d50 : He.DefD := ⟨("_law_changed", none), "_law_changed", "_law_changed", defArgs (top 50), defBody (top 50), defScope (top 50), [], []⟩
def d51 : He.DefD := ⟨("law", none), "law", "law", defArgs (top 51), defBody (top 51), defScope (top 51), [], []⟩
def dm0 : He.DefD := ⟨("Question", some "__init__"), "__init__", "Question.__init__", defArgs (inClass (top 28) 0), defBody (inClass (top 28) 0), defScope (inClass (top 28) 0), [], []⟩
def dp0 : He.DefD := ⟨("ParseError", some "__init__"), "__init__", "ParseError.__init__", defArgs (inClass (top 5) 0), defBody (inClass (top 5) 0), defScope (inClass (top 5) 0), [], []⟩
def fn0a : List He.DefD := [d10, d11, d12, d13, d14, d15, d16, d17, d21, d22, d23, d24]
def fn0b : List He.DefD := [d25, d27, d30, d31, d32, d33, d34, d35, d36, d37, d38, d39]
def fn0c : List He.DefD := [d40, d41, d42, d43, d44, d45, d46, d47, d48, d49, d50, d51]
def fn0d : List He.DefD := [dm0, dp0]
def fn0 : List He.DefD := fn0a ++ fn0b ++ fn0c ++ fn0d
def caQ (K : PySem.W.Frag) : Addr := He.ga K "Question"
def caP (K : PySem.W.Frag) : Addr := He.ga K "ParseError"
/-- a property's function -/
def gG (K : PySem.W.Frag) (f : Str) : Addr := He5.wf K (caQ K) "property" f
/-- a classmethod's function -/
def gC (K : PySem.W.Frag) (f : Str) : Addr := He5.wf K (caQ K) "classmethod" f
def dg2 : He5.DefA := ⟨fun K => gG K "clauses", "clauses", "Question.clauses", defArgs (inClass (top 28) 2), defBody (inClass (top 28) 2), defScope (inClass (top 28) 2), [], []⟩
def dg3 : He5.DefA := ⟨fun K => gG K "asked", "asked", "Question.asked", defArgs (inClass (top 28) 3), defBody (inClass (top 28) 3), defScope (inClass (top 28) 3), [], []⟩
def dg4 : He5.DefA := ⟨fun K => gG K "lines", "lines", "Question.lines", defArgs (inClass (top 28) 4), defBody (inClass (top 28) 4), defScope (inClass (top 28) 4), [], []⟩
def dg1 : He5.DefA := ⟨fun K => gC K "from_lines", "from_lines", "Question.from_lines", defArgs (inClass (top 28) 1), defBody (inClass (top 28) 1), defScope (inClass (top 28) 1), [], []⟩
def fg0a : List He5.DefA := [dg2, dg3, dg4, dg1]
def fg0 : List He5.DefA := fg0a
def prNa : List PySem.Str := [("clauses" : PySem.Str), ("asked" : PySem.Str), ("lines" : PySem.Str)]
def prN : List PySem.Str := prNa
def prB (K : PySem.W.Frag) (f : Str) : Bool := decide (PySem.W.findIn K (.ref (caQ K)) f = some (some (.ref (He.ma K (caQ K) f)))) && (decide (PySem.W.specialIn K (.ref (He.ma K (caQ K) f)) "__get__" = some (some (.builtin "property.__get__"))) &&
  (decide (PySem.W.takesIn K (.ref (He.ma K (caQ K) f)) = some true) && (match PySem.W.recIn K (He.ma K (caQ K) f) "property" with
  | some (.ref _ :: _) => true
  | _ => false)))
/-- Question.from_lines, reached through the class -/
def exC (K : PySem.W.Frag) : Bool := He5.wrapB K (caQ K) "classmethod" "classmethod.__get__" "from_lines" && (PySem.W.fnIn K (gC K "from_lines") && (PySem.W.readsIn K (caQ K) (.type "type") &&
  decide (PySem.W.specialIn K (.ref (caQ K)) "__getattribute__" = some (some (.builtin "type.__getattribute__")))))
/-- ParseError: how it is made, how its field is read -/
def exP (K : PySem.W.Frag) : Bool := PySem.W.excInitIn K (caP K) [.type "ValueError", .type "Exception", .type "BaseException", .type "object"] "ValueError.__new__" && (PySem.W.excOver K (caP K) [.type "ValueError", .type "Exception", .type "BaseException", .type "object"] &&
  (decide (PySem.W.findIn K (.ref (caP K)) "__setattr__" = some (some (.builtin "object.__setattr__"))) && (decide (PySem.W.findIn K (.ref (caP K)) "number" = some none) && (decide (PySem.W.findIn K (.ref (caP K)) "__init__" = some (some (.ref (He.ma K (caP K) "__init__")))) &&
  (decide (PySem.W.typeIn K (.ref (He.ma K (caP K) "__init__")) = some (.type "function")) && (PySem.W.keepIn K (.ref (caP K)) && (decide (PySem.W.typeIn K (.ref (caP K)) = some (.type "type")) && (L2.xfB K (caP K) && (match K.lookup (He.ma K (caP K) "__init__") with
  | some ⟨_, _, .func fd, _⟩ => decide (fd.kwdefaults = .none)
  | _ => false)))))))))
def ex0 (K : PySem.W.Frag) : Bool := prN.all (prB K) && (exC K && exP K)
def nG : Nat := 6
/-! ### the Hook: names, one Bool, and the functions of properties -/
def fr0 (g : Addr → Option Obj) : PySem.W.Frag := He.frT g (He5.asA g nG)
def obY (g : Addr → Option Obj) : (He.AlT × Bool) × He.AlD := ((He.obsT fa0 fn0 [] (fr0 g), ex0 (fr0 g)), He5.obsA [] fg0 (fr0 g))
theorem ofY {w : World} {h : Heap} (e : obY h.get? = ((He.valT fn0 [] w, true), He5.valA fg0)) : ∃ K : PySem.W.Frag, K.In h ∧ He.SaysT fa0 fn0 [] w K ∧ ex0 K = true ∧ He5.SaysA [] fg0 K := by
  unfold obY at e
  obtain ⟨e1, e3⟩ := Prod.mk.inj e
  obtain ⟨e1, e2⟩ := Prod.mk.inj e1
  exact ⟨fr0 h.get?, He.frT_in, e1, e2, e3⟩
def hkY : PySem.W.Hook where
  α := (He.AlT × Bool) × He.AlD
  obs := fun s => obY s.heap.get?
  val := fun w => ((He.valT fn0 [] w, true), He5.valA fg0)
  says := fun w h => ∃ K : PySem.W.Frag, K.In h ∧ He.SaysT fa0 fn0 [] w K ∧ ex0 K = true ∧ He5.SaysA [] fg0 K
  of := fun _ _ e => ofY e
  keeps := fun _ _ _ ⟨K, hK, t, m, d⟩ k => ⟨K, PySem.W.Frag.In.keeps hK k, t, m, d⟩
abbrev Rw : PySem.W.OpenRow := PySem.W.OpenLaw.row PySem.Challenge.rw_joinhouse_k03_whole_lines_of_questions
abbrev qv0 : Program := PySem.W.view Rw.prog [51]
def ob0 (s : PySem.W.SharedT) : (He.AlT × Bool) × He.AlD := obY (HandSHeadRun.getT s)
theorem ob0_eq (s : PySem.W.SharedT) : ob0 s = hkY.obs s.abs := by
  have e : HandSHeadRun.getT s = s.abs.heap.get? := funext (HandSHeadRun.getT_eq s)
  show obY (HandSHeadRun.getT s) = obY s.abs.heap.get?
  rw [e]
noncomputable abbrev wh0 (w : World) := HandSHeadRun.wholeF (fun p => HandSHeadRun.stepQ (HandSHeadRun.denQ HandSHeadRun.tabQ) p w) HandSHeadRun.fenceQ 60000 Rw.prog

end K0

/-! ## U1 -/
set_option maxRecDepth 100000
set_option maxHeartbeats 0
namespace K0
open PySem L2
theorem run12 (w : World) : ((wh0 w).map fun x => (HandSHeadRun.looksF Rw.prog x.1.heap x.2.abs, HandSHeadRun.seenQ qv0 loose0 (importedModules Rw.prog.main.body) (fun s => PySem.W.xlAt qv0 [] s && PySem.W.recOk Rw.toRowW.records s) x.2.abs)) = some (true, PySem.W.openGood qv0 loose0) := by kernel_rfl
theorem run3a (w : World) : ((wh0 w).map fun x => ((ob0 x.2).1.1.1.1, (ob0 x.2).1.2)) = some (true, true) := by kernel_rfl
theorem run3b (w : World) : ((wh0 w).map fun x => (ob0 x.2).1.1.1.2) = some (fn0.map He.DefD.val) := by kernel_rfl
theorem run3c (w : World) : ((wh0 w).map fun x => (ob0 x.2).2) = some (He5.valA fg0) := by kernel_rfl
theorem val0 (w : World) (y : (He.AlT × Bool) × He.AlD) (h1 : y.1.1.1.1 = true) (h2 : y.1.1.1.2 = fn0.map He.DefD.val) (h3 : y.1.1.2 = []) (h4 : y.1.2 = true) (h5 : y.2 = He5.valA fg0) : y = ((He.valT fn0 [] w, true), He5.valA fg0) := by
  obtain ⟨⟨⟨⟨y1, y2⟩, y3⟩, y4⟩, y5⟩ := y
  dsimp only at h1 h2 h3 h4 h5
  rw [h1, h2, h3, h4, h5]
  rfl
theorem ob0_nil (s : PySem.W.SharedT) : (ob0 s).1.1.2 = [] := rfl
/-- what is told of one run, put together -/
theorem run0 (w : World) : HandSHeadRun.RunEqI Rw qv0 hkY ob0 60000 loose0 w := by
  obtain ⟨x, e, e1⟩ := Option.map_eq_some_iff.mp (run12 w)
  have e2 := run3a w
  have e3 := run3b w
  have e6 := run3c w
  rw [e] at e2 e3 e6
  have h2 : ((ob0 x.2).1.1.1.1, (ob0 x.2).1.2) = (true, true) := Option.some.inj e2
  have h3 : (ob0 x.2).1.1.1.2 = fn0.map He.DefD.val := Option.some.inj e3
  have h6 : (ob0 x.2).2 = He5.valA fg0 := Option.some.inj e6
  have h57 := Prod.mk.inj h2
  have h4 : ob0 x.2 = ((He.valT fn0 [] w, true), He5.valA fg0) := val0 w (ob0 x.2) h57.1 h3 (ob0_nil x.2) h57.2 h6
  have e4 := congrArg Prod.fst e1
  have e5 := congrArg Prod.snd e1
  unfold wh0 at e
  unfold HandSHeadRun.RunEqI
  rw [e]
  exact congrArg some (Prod.ext e4 (Prod.ext e5 h4))
end K0

/-! ## B1 -/
set_option maxRecDepth 100000
set_option maxHeartbeats 2000000
noncomputable section
namespace K0
open PySem PySem.Spec PyProof.Rows L2
def keyT (e : Int × Value) : Str := match e.2 with | .str k _ => k | _ => Str.empty
def GoodT (w : World) (e : Int × Value) : Prop := ∃ k tk, e.2 = Value.str k tk ∧ e.1 = hashStr w k

/-- the set of ints at a: S its members, n their number; its table rises and can be walked -/
def SetT (w : World) (h : Heap) (a : Addr) (S : Str → Bool) (n : Nat) : Prop :=
  ∃ o es ep t, h.get? a = some o ∧ o.ExactSet ∧ o.data = .set es ep t ∧ (∀ e ∈ es.toList, GoodT w e) ∧ (es.toList.map keyT).Nodup ∧ (∀ k, S k = true ↔ k ∈ es.toList.map keyT) ∧
    es.size < scanBound ∧ t.fits es.size = true ∧ es.size = n ∧ Ris t.place.toList ∧ (w.params.followText "set-order" = true ∨ t.led = true)

section
variable {P : Program} {w : World} {h h' : Heap} {a : Addr} {S : Str → Bool} {n : Nat}

theorem SetT.at (R : SetT w h a S n) (k : ∀ o, h.get? a = some o → h'.get? a = some o) : SetT w h' a S n := by
  obtain ⟨o, es, ep, t, ho, r⟩ := R
  exact ⟨o, es, ep, t, k o ho, r⟩
theorem SetT.lt (R : SetT w h a S n) : a < h.objs.size := by
  obtain ⟨o, es, ep, t, ho, r⟩ := R
  exact Heap.lt_size ho
theorem SetT.congr {S' : Str → Bool} (R : SetT w h a S n) (e : ∀ k, S' k = S k) : SetT w h a S' n := by
  have q : S' = S := funext e
  rw [q]; exact R
theorem goodT_elems {l : List (Int × Value)} (g : ∀ e ∈ l, GoodT w e) : ElemsOf (strKind P w) l := fun e he => by
  obtain ⟨k, tk, h1, h2⟩ := g e he
  exact ⟨⟨k, by rw [h1]; exact strKind_is P w k tk, h2⟩, by rw [h1] <;> rfl⟩
theorem goodT_is {e : Int × Value} (g : GoodT w e) (k : Str) : (strKind P w).is k e.2 = true ↔ keyT e = k := by
  obtain ⟨k0, tk, h1, _⟩ := g
  unfold keyT
  rw [h1]
  show (Value.isStrOf k (.str k0 tk) = true) ↔ k0 = k
  simp only [Value.isStrOf, beq_iff_eq, decide_eq_true_eq]
theorem goodT_mem {l : List (Int × Value)} (g : ∀ e ∈ l, GoodT w e) (k : Str) : k ∈ l.map keyT ↔ ∃ e ∈ l, (strKind P w).is k e.2 = true := by
  rw [List.mem_map]
  constructor
  · rintro ⟨e, he, q⟩
    exact ⟨e, he, (goodT_is (g e he) k).2 q⟩
  · rintro ⟨e, he, q⟩
    exact ⟨e, he, (goodT_is (g e he) k).1 q⟩
theorem SetT.setOf (R : SetT w h a S n) : h.SetOf (strKind P w) a S n := by
  obtain ⟨o, es, ep, t, ho, hx, hd, g, nd, hm, hb, hf, hn, _⟩ := R
  exact ⟨o, es, ep, t, ho, hx, hd, goodT_elems g, fun k => (hm k).trans (goodT_mem g k), hb, hf, hn⟩
end

section
variable {P : Program} {w : World} {A : Around} {E : Value → Shared → Prop} {s : Shared} {a : Addr} {S : Str → Bool} {n : Nat}

/-! ### add -/
theorem setT_add_tail {g : Bool → Sem Unit} (hg : ∀ (b : Bool) (s₁ : Shared) (Q' : Unit → Shared → Prop), Q' () s₁ → wpAny (model P w) A (g b) Q' E s₁)
    {o : Obj} {es : Array (Int × Value)} {ep : Nat} {t : SetTable} (ho : s.heap.get? a = some o) (hex : o.ExactSet) (hd : o.data = .set es ep t)
    {es1 : Array (Int × Value)} {t2 : SetTable} {S' : Str → Bool} (g1 : ∀ e ∈ es1.toList, GoodT w e) (nd1 : (es1.toList.map keyT).Nodup) (m1 : ∀ k, S' k = true ↔ k ∈ es1.toList.map keyT)
    (hb1 : es1.size < scanBound) (hf2 : t2.fits es1.size = true) (hr : Ris t2.place.toList) (hl : w.params.followText "set-order" = true ∨ t2.led = true) {wasDummy : Bool} {R : Option Bool → Shared → Prop}
    (hR : ∀ h', Heap.SameBut a s.heap h' → SetT w h' a S' es1.size → R (some true) { s with heap := h' }) :
    wpAny (model P w) A (do
        storeSet a es1 t2
        if (!wasDummy && t2.tooFull) = true then do
            g (relayAll t2 es1 (SetTable.grown es1.size)).2.2
            storeSet a (relayAll t2 es1 (SetTable.grown es1.size)).1 (relayAll t2 es1 (SetTable.grown es1.size)).2.1
            pure (some true)
          else pure (some true)) R E s := by
  refine wpAny_bind (wpAny_storeSet_of ho hd ?_ (fits_of_scanBound hb1))
  have ho1 := store_at (es' := es1) (t' := t2) ho hd
  have sb1 := Heap.SameBut.update s.heap a (Obj.putSet es1 t2)
  split
  · have pm := relayAll_perm t2 es1 (SetTable.grown es1.size)
    have hf3 := relayAll_fits t2 es1 (SetTable.grown es1.size)
    have hr3 := relayAll_ris t2 es1 (SetTable.grown es1.size)
    have hl3 := relayAll_led t2 es1 (SetTable.grown es1.size)
    generalize relayAll t2 es1 (SetTable.grown es1.size) = Z at pm hf3 hr3 hl3 ⊢
    obtain ⟨es2, t3, gave⟩ := Z
    dsimp only at pm hf3 hr3 hl3 ⊢
    have hsz : es2.size = es1.size := by rw [← Array.length_toList, pm.length_eq, Array.length_toList]
    have hb2 : es2.size < scanBound := by rw [hsz]; exact hb1
    refine wpAny_bind (hg _ _ _ ?_)
    refine wpAny_bind (wpAny_storeSet_of ho1 rfl ?_ (fits_of_scanBound hb2))
    have ho2 := store_at (es' := es2) (t' := t3) ho1 rfl
    refine wpAny_pure (hR _ (sb1.trans (Heap.SameBut.update _ a _)) ?_)
    exact ⟨_, es2, _, t3, ho2, hex, rfl, fun e he => g1 e (pm.mem_iff.mp he), (pm.map keyT).nodup_iff.mpr nd1, fun k => (m1 k).trans (pm.map keyT).mem_iff.symm, hb2, hf3, hsz, hr3,
      hl.imp id fun z => by rw [hl3]; exact z⟩
  · exact wpAny_pure (hR _ sb1 ⟨_, es1, _, t2, ho1, hex, rfl, g1, nd1, m1, hb1, hf2, rfl, hr, hl⟩)

theorem setT_add_hashed {k : Str} {tk : Tok} {Q : Bool → Shared → Prop} (R : SetT w s.heap a S n) (room : n + 1 < scanBound)
    (hQ : ∀ h', Heap.SameBut a s.heap h' → SetT w h' a (fun j => S j || decide (j = k)) (if S k = true then n else n + 1) → Q (!S k) { s with heap := h' }) :
    wpAny (model P w) A (setAddHashed a (.str k tk) ((strKind P w).hash k)) Q E s := by
  obtain ⟨o, es, ep, t, ho, hex, hd, g, nd, hm, hb, hf, hn, hr, hl⟩ := R
  have hkey : (strKind P w).is k (.str k tk) = true := strKind_is P w k tk
  have hsc : (Value.str k tk).scannable = true := rfl
  have hel : ElemsOf (strKind P w) es.toList := goodT_elems g
  unfold setAddHashed setAddHashedIn
  refine wpAny_holding (wpAny_bind (wpAny_setState_of ho hd hf ?_))
  dsimp only
  rw [byScan_of hsc hb hel]
  simp only [↓reduceIte]
  unfold setAddByScan
  refine wpAny_bind ?_
  refine wpAny_bind (wpAny_rule ?_)
  refine wpAny_bind (wpAny_setScan_of hkey ho hd hf hel ?_)
  cases hfi : List.findIdx? (fun e => (strKind P w).is k e.2) es.toList with
  | some j =>
    dsimp only
    obtain ⟨hj, pj, _⟩ := List.findIdx?_eq_some_iff_getElem.mp hfi
    have hSk : S k = true := (hm k).2 ((goodT_mem (P := P) (w := w) g k).2 ⟨es.toList[j], List.getElem_mem hj, pj⟩)
    refine wpAny_pure (wpAny_pure ?_)
    have q := hQ s.heap (Heap.SameBut.refl a s.heap) ⟨o, es, ep, t, ho, hex, hd, g, nd, fun i => by
      rw [Bool.or_eq_true, decide_eq_true_eq, ← hm i]
      exact ⟨fun z => z.elim id (fun e => e ▸ hSk), .inl⟩, hb, hf, by rw [if_pos hSk]; exact hn, hr, hl⟩
    rw [hSk] at q
    exact q
  | none =>
    dsimp only
    have hnk : k ∉ es.toList.map keyT := fun z => by
      obtain ⟨e, he, q⟩ := (goodT_mem (P := P) (w := w) g k).1 z
      have c := List.findIdx?_eq_none_iff.mp hfi e he
      rw [q] at c
      cases c
    have hSk : S k = false := by
      cases q : S k with
      | false => rfl
      | true => exact absurd ((hm k).1 q) hnk
    have hgw : ∀ (b : Bool) {s₁ : Shared} {Q' : Unit → Shared → Prop}, Q' () s₁ → wpAny (model P w) A (match b with | true => rule "set.scan.the-table-gave-way" | false => pure ()) Q' E s₁ :=
      fun b s₁ Q' q => by cases b <;> first | exact wpAny_pure q | exact wpAny_rule q
    have pm := layNew_perm t es ((strKind P w).hash k) (.str k tk)
    have hf1 := layNew_fits t es ((strKind P w).hash k) (.str k tk)
    have hr1 := layNew_ris t es ((strKind P w).hash k) (.str k tk) hr
    have hl1 := layNew_led t es ((strKind P w).hash k) (.str k tk)
    generalize layNew t es ((strKind P w).hash k) (.str k tk) = Z at pm hf1 hr1 hl1 ⊢
    obtain ⟨es1, t1, wasDummy, gave⟩ := Z
    dsimp only at pm hf1 hr1 hl1 ⊢
    rw [Array.toList_push] at pm
    have pc : es1.toList.Perm (((strKind P w).hash k, Value.str k tk) :: es.toList) := pm.trans (List.perm_append_singleton _ _)
    have pk : (es1.toList.map keyT).Perm (k :: es.toList.map keyT) := pc.map keyT
    have g1 : ∀ e ∈ es1.toList, GoodT w e := fun e he => by
      rcases List.mem_cons.mp (pc.mem_iff.mp he) with z | z
      · rw [z]; exact ⟨k, tk, rfl, rfl⟩
      · exact g e z
    have nd1 : (es1.toList.map keyT).Nodup := pk.nodup_iff.mpr (List.nodup_cons.mpr ⟨hnk, nd⟩)
    have m1 : ∀ i, (S i || decide (i = k)) = true ↔ i ∈ es1.toList.map keyT := fun i => by
      rw [Bool.or_eq_true, decide_eq_true_eq, hm i, pk.mem_iff, List.mem_cons]
      exact Or.comm
    have hsz : es1.size = n + 1 := by rw [← Array.length_toList, pc.length_eq, List.length_cons, Array.length_toList, hn]
    have hb1 : es1.size < scanBound := by rw [hsz]; exact room
    have hled : w.params.followText "set-order" = true ∨ t1.led = true := hl.imp id fun z => by rw [hl1]; exact z
    have fin : ∀ h', Heap.SameBut a s.heap h' → SetT w h' a (fun j => S j || decide (j = k)) es1.size → Q true { s with heap := h' } := fun h' sb r => by
      have q := hQ h' sb
      rw [hSk] at q
      rw [hsz] at r
      exact q r
    refine wpAny_bind (hgw _ ?_)
    split
    · refine wpAny_bind ?_
      rw [hashByValue_scannable 8 hsc]
      refine wpAny_pure ?_
      refine setT_add_tail ?_ ho hex hd g1 nd1 m1 hb1 ?_ ?_ ?_ ?_
      · intro b s₁ Q' q; cases b <;> first | exact wpAny_pure q | exact wpAny_rule q
      · first | (split <;> first | exact hf1 | exact SetTable.fits_plain_off hf1) | exact hf1
      · first | (split <;> exact hr1) | exact hr1
      · first | (split <;> exact hled) | exact hled
      · intro h' sb r; dsimp only; exact wpAny_pure (fin h' sb r)
    · refine wpAny_bind (wpAny_pure ?_)
      simp only [↓reduceIte]
      refine setT_add_tail ?_ ho hex hd g1 nd1 m1 hb1 hf1 hr1 hled ?_
      · intro b s₁ Q' q; cases b <;> first | exact wpAny_pure q | exact wpAny_rule q
      · intro h' sb r; dsimp only; exact wpAny_pure (fin h' sb r)

end
theorem setT_new_at {w : World} {h : Heap} {a : Addr} {ns : List Str} (ho : h.get? a = some { cls := .type "set", dict := none, data := .set #[] 0 (.fresh 0 0 (!w.params.followText "set-order")) }) : SetT w h a (fun j => decide (j ∈ ns.take 0)) 0 :=
  ⟨_, #[], 0, _, ho, ⟨rfl, rfl, rfl⟩, rfl, (fun e he => by simp at he), (by simp), (fun k => by simp), (by decide), (by rfl), rfl, List.Pairwise.nil, by
    show _ ∨ (!w.params.followText "set-order") = true
    cases w.params.followText "set-order"
    · exact .inr rfl
    · exact .inl rfl⟩
section
variable {P : Program} {w : World} {A : Around} {E : Value → Shared → Prop} {s : Shared}
theorem set_update_txts {I : Addr} {fp wr : List Addr} {G : Array GenState → Array GenState → Prop} {n : Nat} {Pv : Nat → Value → Prop} {St : Nat → Shared → Prop} {R : Result → Shared → Prop}
    (W : WalksS P w A.in1 I fp wr G n Pv St) (S : Addr) (hSf : S ∉ fp) (ns : List Str) (hn : n = ns.length) (hb : ns.length + 1 < scanBound) (hval : ∀ i v, Pv i v → ∃ k t, ns[i]? = some k ∧ v = .str k t) :
    ∀ (k i : Nat) (s : Shared), n - i = k → i ≤ n → St i s → (∃ c, c ≤ i ∧ SetT w s.heap S (fun j => decide (j ∈ ns.take i)) c) →
      (∀ s' c, Moved (S :: wr) G s s' → c ≤ n → SetT w s'.heap S (fun j => decide (j ∈ ns)) c → R (.ok (.ret .none)) s') →
      codeAny (model P w) A (.builtin "set.update.loop" ⟨[.ref S, .ref I], []⟩) R s := by
  have hSw : S ∉ wr := fun h => hSf (W.sub _ h)
  have hsub : ∀ b ∈ wr, b ∈ S :: wr := fun b hb => List.mem_cons_of_mem _ hb
  intro k
  induction k with
  | zero =>
    intro i s hk' hi hst ⟨c, hc, hS⟩ hR
    have hin : i = n := by omega
    subst hin
    refine codeAny_builtin F.entry_set_update_loop ?_
    rw [Around.under_plainId F.plain_set_update_loop _]
    show wpAny _ A.in1 (pyNext (.ref I) >>= _) _ _ s
    refine wpAny_bind (W.done s _ _ hst fun s' hm => ?_)
    show wpAny _ A.in1 (ret Value.none) _ _ s'
    have e : ns.take i = ns := List.take_of_length_le (by omega)
    rw [e] at hS
    exact wpAny_pure (hR s' c (hm.mono hsub) hc (hS.at fun o e => hm.heap S o hSw e))
  | succ k ih =>
    intro i s hk' hi hst ⟨c, hc, hS⟩ hR
    have hlt : i < n := by omega
    refine codeAny_builtin F.entry_set_update_loop ?_
    rw [Around.under_plainId F.plain_set_update_loop _]
    show wpAny _ A.in1 (pyNext (.ref I) >>= _) _ _ s
    refine wpAny_bind (W.item i s _ _ hlt hst fun v s' hP hst' hm => ?_)
    obtain ⟨z, t, hz, rfl⟩ := hval i v hP
    have hS' : SetT w s'.heap S (fun j => decide (j ∈ ns.take i)) c := hS.at fun o e => hm.heap S o hSw e
    show wpAny _ A.in1 (holding [Value.str z t] (setAdd S (.str z t)) >>= _) _ _ s'
    refine wpAny_bind (wpAny_holding ?_)
    unfold setAdd
    refine wpAny_holding ?_
    refine wpAny_bind ((strKind P w).pyHash (k := z) (strKind_is _ _ _ _) ?_)
    refine setT_add_hashed (s := { s' with toks := s'.toks + 1 }) hS' (by omega) fun h' hsb hS2 => ?_
    have hS3 : SetT w h' S (fun j => decide (j ∈ ns.take (i + 1))) (if decide (z ∈ ns.take i) = true then c else c + 1) := hS2.congr fun j => by
      rw [List.take_add_one, hz]
      simp [List.mem_append]
    have hc3 : (if decide (z ∈ ns.take i) = true then c else c + 1) ≤ i + 1 := by
      split <;> omega
    refine wpAny_pure ⟨plainId_quiet F.plain_set_update_loop _, ih (i + 1) _ (by omega) hlt (W.frame _ s' _ _ hst' (Nat.le_succ _) fun b hb o e => ?_) ⟨_, hc3, hS3⟩ fun s'' c2 hm'' hc'' hS'' => ?_⟩
    · rw [hsb.2 b (fun h : b = S => hSf (by rw [← h]; exact hb))]; exact e
    · refine hR s'' c2 (Moved.trans W.gtrans ((hm.mono hsub).then_heap (Nat.le_succ _) fun b o hb e => ?_) hm'') hc'' hS''
      rw [hsb.2 b (fun h : b = S => hb (by rw [h]; exact List.mem_cons_self))]; exact e

set_option maxRecDepth 100000 in
set_option maxHeartbeats 3200000 in
theorem call_set_tupT {l : Addr} {items : Array Value} (ns : List Str) {Q : Value → Shared → Prop} (hh : A.handled = none) (hl : s.heap.IsTuple l items) (hit : StrsAre items.toList ns) (hb : ns.length + 1 < scanBound)
    (h : ∀ (h' : Heap) (tk c : Nat), SetT w h' s.heap.objs.size (fun j => decide (j ∈ ns)) c → c ≤ ns.length → (∀ b o, s.heap.get? b = some o → h'.get? b = some o) → Q (.ref s.heap.objs.size) { s with heap := h', toks := tk }) :
    wpAny (model P w) A (call (.type "set") [.ref l]) Q E s := by
  have hisz : items.size = ns.length := by
    have q := StrsAre.length hit
    rw [Array.length_toList] at q
    exact q
  obtain ⟨c, tl, hmro⟩ := F.called_set.mro
  have hmade := F.called_set.made
  have hsub := F.called_set.sub
  refine wpAny_call (codeAny_of_tree ?_)
  show wpAny _ _ (callAny (.type "set") _) _ _ _
  refine wpAny_pure ⟨Code.quiet_builtin _ (by decide +kernel), codeAny_builtin F.entry_type_call ?_⟩
  rw [Around.under_plain (weight_type_call_type "set" [.ref l] []) rfl]
  have h1 := F.called_set.notType
  have h2 := F.called_set.canCreate
  have hct := F.typeCall_set_1 (.ref l)
  repeat (any_goals (first | assumption | wp_step))

  refine codeAny_mono (code_set_led1 (.ref l) (E := E) (Q₁ := fun obj s₁ => obj = .ref s.heap.objs.size ∧ s₁ = { s with heap := s.heap.push { cls := .type "set", dict := none, data := .set #[] 0 (.fresh 0 0 (!w.params.followText "set-order")) } }) ⟨rfl, rfl⟩) fun r s₁ hr => ?_
  cases r with
  | error e => exact hr
  | ok fl =>
    cases fl with
    | ret obj =>
      obtain ⟨rfl, rfl⟩ := hr
      have hS : (s.heap.push { cls := .type "set", dict := none, data := .set #[] 0 (.fresh 0 0 (!w.params.followText "set-order")) }).get? s.heap.objs.size = some { cls := .type "set", dict := none, data := .set #[] 0 (.fresh 0 0 (!w.params.followText "set-order")) } := Heap.get?_push_size _ rfl
      have hT : Shared.TypeIs { s with heap := s.heap.push { cls := .type "set", dict := none, data := .set #[] 0 (.fresh 0 0 (!w.params.followText "set-order")) } } (.ref s.heap.objs.size) "set" := ⟨_, hS, rfl⟩
      have hli := F.called_set.init.lookup
      have hbi := F.called_set.init.bind (.ref s.heap.objs.size)
      repeat (any_goals (first | assumption | wp_step))

      refine codeAny_mono (codeAny_call_builtin (R := wants (fun r s₂ => r = .none ∧ ∃ h' tk c, s₂ = { s with heap := h', toks := tk } ∧ SetT w h' s.heap.objs.size (fun j => decide (j ∈ ns)) c ∧ c ≤ ns.length ∧
          (∀ b o, s.heap.get? b = some o → h'.get? b = some o)) E) F.called_set.init.plain F.entry_set_init (check_set_init_1 hT ?_)) fun r₂ s₂ hr₂ => ?_
      · obtain ⟨ol, hol, hcl, nl, hdl⟩ := hl
        obtain ⟨ocls, odict, odata, oslots⟩ := ol
        simp only at hcl hdl
        subst hcl; subst hdl
        have hol' : (s.heap.push { cls := .type "set", dict := none, data := .set #[] 0 (.fresh 0 0 (!w.params.followText "set-order")) }).get? l = some { cls := .type "tuple", dict := odict, data := .seq items nl, slots := oslots } := Heap.get?_push_of_some _ hol
        have hsls := F.sub_tuple_set
        have hslf := F.sub_tuple_frozenset
        have hne : (Value.type "tuple" == Value.type "dict") = false := by decide
        have hl1 : (s.heap.push { cls := .type "set", dict := none, data := .set #[] 0 (.fresh 0 0 (!w.params.followText "set-order")) }).IsTuple l items := ⟨_, hol', rfl, nl, rfl⟩
        unfold Builtin.«set.__init__» noKeywords Builtin.Frozenset.updateFrom
        generalize hPI : pyIter = PI
        wp_walk
        subst hPI

        refine wpAny_pyIter_tuple hl1 ?_
        refine wpAny_bind (wpAny_runValue ?_)
        have hlS : l < s.heap.objs.size := Heap.lt_size hol
        have hh3 : A.in1.in1.in1.handled = none := by simp [hh]
        have hz1 : (s.heap.push { cls := .type "set", dict := none, data := .set #[] 0 (.fresh 0 0 (!w.params.followText "set-order")) }).objs.size = s.heap.objs.size + 1 := Heap.size_push ..
        have hneI : l ≠ (s.heap.push { cls := .type "set", dict := none, data := .set #[] 0 (.fresh 0 0 (!w.params.followText "set-order")) }).objs.size := by
          rw [Heap.size_push]; exact Nat.ne_of_lt (Nat.lt_succ_of_lt hlS)
        have hSf : s.heap.objs.size ∉ [(s.heap.push { cls := .type "set", dict := none, data := .set #[] 0 (.fresh 0 0 (!w.params.followText "set-order")) }).objs.size, l] := by
          rw [Heap.size_push]; simp only [List.mem_cons, List.mem_singleton, List.not_mem_nil, or_false, not_or]
          exact ⟨Nat.ne_of_lt (Nat.lt_succ_self _), Nat.ne_of_gt hlS⟩
        have hval : ∀ (i : Nat) (v : Value), items[i]? = some v → ∃ k t, ns[i]? = some k ∧ v = .str k t := fun i v hv => by
          have hi : i < ns.length := by rw [← hisz]; exact (Array.getElem?_eq_some_iff.mp hv).1
          obtain ⟨t, e⟩ := SS.strs_at hit i v (by rw [Array.getElem?_toList]; exact hv)
          refine ⟨ns[i], t, List.getElem?_eq_getElem hi, ?_⟩
          rw [e, List.getD_eq_getElem?_getD, List.getElem?_eq_getElem hi] <;> rfl
        refine set_update_txts ((Walks.tuple hh3 _ l hneI items).toS) s.heap.objs.size
          hSf ns hisz hb hval (items.size - 0) 0 _ (by omega) (Nat.zero_le _)
          ⟨⟨_, Heap.get?_push_size _ rfl, rfl, rfl⟩, (hl1.push _)⟩ ?hS0 ?hR
        case hS0 =>
          have hget : ((s.heap.push { cls := .type "set", dict := none, data := .set #[] 0 (.fresh 0 0 (!w.params.followText "set-order")) }).push { cls := .type "tuple_iterator", data := .fields #[.ref l, .int 0 0] }).get? s.heap.objs.size
              = some { cls := .type "set", dict := none, data := .set #[] 0 (.fresh 0 0 (!w.params.followText "set-order")) } := Heap.get?_push_of_some _ hS
          exact ⟨0, Nat.le_refl 0, setT_new_at hget⟩
        case hR =>
          intro s' c' hm hc' hS'
          obtain ⟨h', g2, d', tk', os'⟩ := s'
          have eg : g2 = s.gens := hm.gens
          have ed : d' = s.drawn := hm.drawn
          have eo : os' = s.os := hm.os
          subst eg; subst ed; subst eo
          show wpAny _ _ _ _ _ _
          refine wpAny_pure ?_
          show wpAny _ _ (ret Value.none) _ _ _
          rw [hisz] at hc'
          refine wpAny_pure ⟨rfl, h', tk', c', rfl, hS', hc', fun b o e => ?_⟩
          have hb0 : b < s.heap.objs.size := Heap.lt_size e
          have hb1 : b ≠ s.heap.objs.size := Nat.ne_of_lt hb0
          have hb2 : b ≠ (s.heap.push { cls := .type "set", dict := none, data := .set #[] 0 (.fresh 0 0 (!w.params.followText "set-order")) }).objs.size := by
            rw [Heap.size_push]; exact Nat.ne_of_lt (Nat.lt_succ_of_lt hb0)
          exact hm.heap b o (by simp only [List.mem_cons, List.mem_singleton, List.not_mem_nil, or_false, not_or]; exact ⟨hb1, hb2⟩) (Heap.get?_push_of_some _ (Heap.get?_push_of_some _ e))

      · cases r₂ with
        | error e => exact hr₂
        | ok fl₂ =>
          cases fl₂ with
          | ret r =>
            obtain ⟨rfl, h', tk, c', rfl, hS', hc', hk'⟩ := hr₂
            repeat (any_goals (first | assumption | wp_step))
            exact h _ _ _ hS' hc' hk'
          | _ => exact hr₂.elim
    | _ => exact hr.elim

end

end K0

/-! ## B2 -/
set_option maxRecDepth 100000
set_option maxHeartbeats 2000000
noncomputable section
namespace K0
open PySem PySem.Spec PyProof.Rows L2
section
variable {P : Program} {w : World} {A : Around} {E : Value → Shared → Prop} {s : Shared}
set_option maxHeartbeats 3200000 in
theorem call_set_listT {l : Addr} {items : Array Value} (ns : List Str) {Q : Value → Shared → Prop} (hh : A.handled = none) (hl : s.heap.IsList l items) (hit : StrsAre items.toList ns) (hb : ns.length + 1 < scanBound)
    (h : ∀ (h' : Heap) (tk c : Nat), SetT w h' s.heap.objs.size (fun j => decide (j ∈ ns)) c → c ≤ ns.length → (∀ b o, s.heap.get? b = some o → h'.get? b = some o) → Q (.ref s.heap.objs.size) { s with heap := h', toks := tk }) :
    wpAny (model P w) A (call (.type "set") [.ref l]) Q E s := by
  have hisz : items.size = ns.length := by
    have q := StrsAre.length hit
    rw [Array.length_toList] at q
    exact q
  obtain ⟨c, tl, hmro⟩ := F.called_set.mro
  have hmade := F.called_set.made
  have hsub := F.called_set.sub
  refine wpAny_call (codeAny_of_tree ?_)
  show wpAny _ _ (callAny (.type "set") _) _ _ _
  refine wpAny_pure ⟨Code.quiet_builtin _ (by decide +kernel), codeAny_builtin F.entry_type_call ?_⟩
  rw [Around.under_plain (weight_type_call_type "set" [.ref l] []) rfl]
  have h1 := F.called_set.notType
  have h2 := F.called_set.canCreate
  have hct := F.typeCall_set_1 (.ref l)
  repeat (any_goals (first | assumption | wp_step))

  refine codeAny_mono (code_set_led1 (.ref l) (E := E) (Q₁ := fun obj s₁ => obj = .ref s.heap.objs.size ∧ s₁ = { s with heap := s.heap.push { cls := .type "set", dict := none, data := .set #[] 0 (.fresh 0 0 (!w.params.followText "set-order")) } }) ⟨rfl, rfl⟩) fun r s₁ hr => ?_
  cases r with
  | error e => exact hr
  | ok fl =>
    cases fl with
    | ret obj =>
      obtain ⟨rfl, rfl⟩ := hr
      have hS : (s.heap.push { cls := .type "set", dict := none, data := .set #[] 0 (.fresh 0 0 (!w.params.followText "set-order")) }).get? s.heap.objs.size = some { cls := .type "set", dict := none, data := .set #[] 0 (.fresh 0 0 (!w.params.followText "set-order")) } := Heap.get?_push_size _ rfl
      have hT : Shared.TypeIs { s with heap := s.heap.push { cls := .type "set", dict := none, data := .set #[] 0 (.fresh 0 0 (!w.params.followText "set-order")) } } (.ref s.heap.objs.size) "set" := ⟨_, hS, rfl⟩
      have hli := F.called_set.init.lookup
      have hbi := F.called_set.init.bind (.ref s.heap.objs.size)
      repeat (any_goals (first | assumption | wp_step))

      refine codeAny_mono (codeAny_call_builtin (R := wants (fun r s₂ => r = .none ∧ ∃ h' tk c, s₂ = { s with heap := h', toks := tk } ∧ SetT w h' s.heap.objs.size (fun j => decide (j ∈ ns)) c ∧ c ≤ ns.length ∧
          (∀ b o, s.heap.get? b = some o → h'.get? b = some o)) E) F.called_set.init.plain F.entry_set_init (check_set_init_1 hT ?_)) fun r₂ s₂ hr₂ => ?_
      · obtain ⟨ol, hol, hcl, nl, hdl⟩ := hl
        obtain ⟨ocls, odict, odata, oslots⟩ := ol
        simp only at hcl hdl
        subst hcl; subst hdl
        have hol' : (s.heap.push { cls := .type "set", dict := none, data := .set #[] 0 (.fresh 0 0 (!w.params.followText "set-order")) }).get? l = some { cls := .type "list", dict := odict, data := .seq items nl, slots := oslots } := Heap.get?_push_of_some _ hol
        have hsls := F.sub_list_set
        have hslf := F.sub_list_frozenset
        have hne : (Value.type "list" == Value.type "dict") = false := by decide
        have hl1 : (s.heap.push { cls := .type "set", dict := none, data := .set #[] 0 (.fresh 0 0 (!w.params.followText "set-order")) }).IsList l items := ⟨_, hol', rfl, nl, rfl⟩
        unfold Builtin.«set.__init__» noKeywords Builtin.Frozenset.updateFrom
        generalize hPI : pyIter = PI
        wp_walk
        subst hPI

        refine wpAny_pyIter_list hl1 ?_
        refine wpAny_bind (wpAny_runValue ?_)
        have hlS : l < s.heap.objs.size := Heap.lt_size hol
        have hh3 : A.in1.in1.in1.handled = none := by simp [hh]
        have hz1 : (s.heap.push { cls := .type "set", dict := none, data := .set #[] 0 (.fresh 0 0 (!w.params.followText "set-order")) }).objs.size = s.heap.objs.size + 1 := Heap.size_push ..
        have hneI : l ≠ (s.heap.push { cls := .type "set", dict := none, data := .set #[] 0 (.fresh 0 0 (!w.params.followText "set-order")) }).objs.size := by
          rw [Heap.size_push]; exact Nat.ne_of_lt (Nat.lt_succ_of_lt hlS)
        have hSf : s.heap.objs.size ∉ [(s.heap.push { cls := .type "set", dict := none, data := .set #[] 0 (.fresh 0 0 (!w.params.followText "set-order")) }).objs.size, l] := by
          rw [Heap.size_push]; simp only [List.mem_cons, List.mem_singleton, List.not_mem_nil, or_false, not_or]
          exact ⟨Nat.ne_of_lt (Nat.lt_succ_self _), Nat.ne_of_gt hlS⟩
        have hval : ∀ (i : Nat) (v : Value), items[i]? = some v → ∃ k t, ns[i]? = some k ∧ v = .str k t := fun i v hv => by
          have hi : i < ns.length := by rw [← hisz]; exact (Array.getElem?_eq_some_iff.mp hv).1
          obtain ⟨t, e⟩ := SS.strs_at hit i v (by rw [Array.getElem?_toList]; exact hv)
          refine ⟨ns[i], t, List.getElem?_eq_getElem hi, ?_⟩
          rw [e, List.getD_eq_getElem?_getD, List.getElem?_eq_getElem hi] <;> rfl
        refine set_update_txts ((Walks.list hh3 _ l hneI items).toS) s.heap.objs.size
          hSf ns hisz hb hval (items.size - 0) 0 _ (by omega) (Nat.zero_le _)
          ⟨⟨_, Heap.get?_push_size _ rfl, rfl, rfl⟩, (hl1.push _)⟩ ?hS0 ?hR
        case hS0 =>
          have hget : ((s.heap.push { cls := .type "set", dict := none, data := .set #[] 0 (.fresh 0 0 (!w.params.followText "set-order")) }).push { cls := .type "list_iterator", data := .fields #[.ref l, .int 0 0] }).get? s.heap.objs.size
              = some { cls := .type "set", dict := none, data := .set #[] 0 (.fresh 0 0 (!w.params.followText "set-order")) } := Heap.get?_push_of_some _ hS
          exact ⟨0, Nat.le_refl 0, setT_new_at hget⟩
        case hR =>
          intro s' c' hm hc' hS'
          obtain ⟨h', g2, d', tk', os'⟩ := s'
          have eg : g2 = s.gens := hm.gens
          have ed : d' = s.drawn := hm.drawn
          have eo : os' = s.os := hm.os
          subst eg; subst ed; subst eo
          show wpAny _ _ _ _ _ _
          refine wpAny_pure ?_
          show wpAny _ _ (ret Value.none) _ _ _
          rw [hisz] at hc'
          refine wpAny_pure ⟨rfl, h', tk', c', rfl, hS', hc', fun b o e => ?_⟩
          have hb0 : b < s.heap.objs.size := Heap.lt_size e
          have hb1 : b ≠ s.heap.objs.size := Nat.ne_of_lt hb0
          have hb2 : b ≠ (s.heap.push { cls := .type "set", dict := none, data := .set #[] 0 (.fresh 0 0 (!w.params.followText "set-order")) }).objs.size := by
            rw [Heap.size_push]; exact Nat.ne_of_lt (Nat.lt_succ_of_lt hb0)
          exact hm.heap b o (by simp only [List.mem_cons, List.mem_singleton, List.not_mem_nil, or_false, not_or]; exact ⟨hb1, hb2⟩) (Heap.get?_push_of_some _ (Heap.get?_push_of_some _ e))

      · cases r₂ with
        | error e => exact hr₂
        | ok fl₂ =>
          cases fl₂ with
          | ret r =>
            obtain ⟨rfl, h', tk, c', rfl, hS', hc', hk'⟩ := hr₂
            repeat (any_goals (first | assumption | wp_step))
            exact h _ _ _ hS' hc' hk'
          | _ => exact hr₂.elim
    | _ => exact hr.elim

end
end K0

/-! ## B3 -/
set_option maxRecDepth 100000
set_option maxHeartbeats 2000000
noncomputable section
namespace K0
open PySem PySem.Spec PyProof.Rows L2
theorem txts_of : ∀ (l : List Value), (∀ v ∈ l, ∃ k tk, v = Value.str k tk) → StrsAre l (l.map strOf)
  | [], _ => .nil
  | v :: l, h => by
    obtain ⟨k, tk, rfl⟩ := h v List.mem_cons_self
    exact .cons k tk (txts_of l fun u hu => h u (List.mem_cons_of_mem _ hu))
section
variable {P : Program} {w : World} {A : Around} {E : Value → Shared → Prop} {s : Shared} {a : Addr}
theorem sorted_setT {S : Str → Bool} {n : Nat} {Q : Value → Shared → Prop} (R : SetT w s.heap a S n) (hh : A.handled = none) (h64 : n < 64)
    (hQ : ∀ s' p (out : Array Value) (c : Nat) (ns : List Str), (∀ b o, s.heap.get? b = some o → s'.heap.get? b = some o) → s'.gens = s.gens → s'.os = s.os → s.heap.objs.size ≤ p →
      s'.heap.get? p = some (seqObj "list" out c) → StrsAre out.toList ns → PyProof.Rows.sortedS ns = true → ns.Nodup → (∀ k, k ∈ ns ↔ S k = true) → ns.length = n → Q (.ref p) s') :
    wpAny (model P w) A (call (.builtin "sorted") [.ref a]) Q E s := by
  obtain ⟨o, es, ep, t, ho, hex, hd, g, nd, hm, hb, hf, hn, hr, hl⟩ := R
  refine Calls.call_function_entry kind_sorted plain_sorted entry_sorted (args_sorted1 _) ?_
  unfold Builtin.«sorted»
  refine wpAny_bind (m := checkCount "sorted" 1 1 _) (wpAny_pure ?_)
  refine wpAny_bind (collect_set (A := A.in1) hh ⟨o, ho, hex.1, hd⟩ hf hb hr hl fun s1 vs k1 hz g1 o1 pm => ?_)
  have hvl : vs.length = n := by rw [pm.length_eq, List.length_map, Array.length_toList]; exact hn
  have hI : StrsAre vs (vs.map strOf) := txts_of vs fun v hv => by
    obtain ⟨e, he, q⟩ := List.mem_map.mp (pm.mem_iff.mp hv)
    obtain ⟨k, tk, h1, _⟩ := g e he
    exact ⟨k, tk, by rw [← q]; exact h1⟩
  have pk : (vs.map strOf).Perm (es.toList.map keyT) := by
    have q := pm.map strOf
    rw [List.map_map] at q
    have e2 : es.toList.map (strOf ∘ fun x => x.2) = es.toList.map keyT := List.map_congr_left fun e he => by
      obtain ⟨k, tk, h1, _⟩ := g e he
      show strOf e.2 = keyT e
      unfold keyT
      rw [h1] <;> rfl
    exact q.trans (by rw [← e2])
  refine wpAny_bind (wpAny_newList ?_ (by rw [hvl, sizeLine_eq]; omega))
  have hoL : (s1.heap.push (seqObj "list" vs.toArray 0)).get? s1.heap.objs.size = some (seqObj "list" vs.toArray 0) := Heap.get?_push_size _ rfl
  refine wpAny_bind (wpAny_holding (wpAny_call_entry slot_list_sort ⟨_, hoL, rfl⟩ entry_list_sort (list_sort_treeK strKind_oneLt hoL hI.keysOf (fun v₁ v₂ rest e => keyKind_strs (by rw [← e]; exact hI)) (by rw [hvl]; exact h64) fun st' hp hs => ⟨_, rfl, ?_⟩) (args_list_sort _)))
  obtain ⟨ns', a1, a2, a3⟩ := sorted_out_str hI hp hs
  obtain ⟨c, hc⟩ := sortedHeap_at (vs := vs) (out := (arrOf st').map (·.2)) hoL
  have pn : ns'.Perm (es.toList.map keyT) := a2.trans pk
  refine wpAny_pure ⟨_, rfl, hQ _ s1.heap.objs.size _ c ns' (fun b u e => ?_) g1 o1 hz hc a1 a3 (pn.nodup_iff.mpr nd) (fun k => by rw [pn.mem_iff, ← hm k]) ?_⟩
  · have q := k1 b u e
    have hlt := Heap.lt_size q
    show (sortedHeap (s1.heap.push (seqObj "list" vs.toArray 0)) s1.heap.objs.size vs _).get? b = some u
    rw [sortedHeap_old (Nat.ne_of_lt hlt) (by rw [size_push']; exact Nat.lt_succ_of_lt hlt)]
    exact Heap.get?_push_of_some _ q
  · rw [pn.length_eq, List.length_map, Array.length_toList]; exact hn
end
/-! ### the rules: set(texts), len, sorted -/
def SetTO (w : World) (a : Addr) (S : Str → Bool) (n : Nat) : HO := .ext fun h => SetT w h a S n
section
variable {X : Cx}
theorem setT_at {w : World} {P : Program} {H : Hp} {h : Heap} {a : Addr} {S : Str → Bool} {n : Nat} (R : SetT w h a S n) : ObjOk P w H h a (SetTO w a S n) := by
  have ⟨o, _, _, _, ho, _⟩ := R
  exact ⟨R, ⟨o, ho⟩, fun h1 h2 p k => SetT.at p k⟩
theorem setT_get {pins : List (Addr × Obj)} {σ : L2.St} {H : Hp} {s : Shared} {a : Addr} {S : Str → Bool} {n : Nat} (I : Inv X pins σ H s) (ha : H a = some (SetTO X.w a S n)) : SetT X.w s.heap a S n := (I.hok a _ ha).1
/-- set(xs), xs a tuple or a list of texts -/
def rSetTx (K : PySem.W.Frag) (w : World) : List V → Hp → VK → Prop := fun vs H Q => ∃ (l : Addr) (xs : List Str), vs = [.ref l] ∧ (SqT K H l (xs.map V.str) ∨ SqL K H l (xs.map V.str)) ∧ xs.length ≤ 1000 ∧
  ∀ p n, n ≤ xs.length → H p = none → Q (.ref p) (upd H p (SetTO w p (fun j => decide (j ∈ xs)) n))
theorem cr_setTx (hc : X.calm = true) : CallR X (.type "set") (rSetTx X.K X.w) := by
  intro pins s σ H vs us Q I r h
  obtain ⟨l, xs, rfl, hs, hl, q⟩ := h
  rw [Vals.ref1 r]
  have hb : xs.length + 1 < scanBound := by unfold scanBound; omega
  have fin : ∀ (h' : Heap) (tk c : Nat), SetT X.w h' s.heap.objs.size (fun j => decide (j ∈ xs)) c → c ≤ xs.length → (∀ b o, s.heap.get? b = some o → h'.get? b = some o) →
      EP X pins σ Q (.ref s.heap.objs.size) { s with heap := h', toks := tk } := fun h' tk c R hc' k =>
    ⟨.ref _, upd H s.heap.objs.size (SetTO X.w s.heap.objs.size (fun j => decide (j ∈ xs)) c), I.laid (t' := tk) k (Nat.le_refl _) (setT_at R), rfl, q _ c hc' (I.hok.fresh (Nat.le_refl _))⟩
  rcases hs with hs | hs
  · obtain ⟨its, rv, ht, _⟩ := I.tuple hs
    exact call_set_tupT xs (I.ok.hd hc) ht (by simpa using rv.strs) hb fin
  · obtain ⟨its, rv, ht, _⟩ := I.list hs
    exact call_set_listT xs (I.ok.hd hc) ht.isList (by simpa using rv.strs) hb fin
/-- len(set) -/
theorem call_lenTx : CallR X (.builtin "len") (fun vs H Q => ∃ (a : Addr) (S : Str → Bool) (n : Nat), vs = [.ref a] ∧ H a = some (SetTO X.w a S n) ∧ n ≤ 1000 ∧ ((∃ L : List Str, L.Nodup ∧ (∀ k, k ∈ L ↔ S k = true) ∧ L.length = n) → Q (.int n) H)) := by
  intro pins s σ H vs us Q I r h
  obtain ⟨a, S, n, rfl, ha, hn, q⟩ := h
  rw [Vals.ref1 r]
  obtain ⟨o, es, ep, t, ho, hex, hd, g, nd, hm, hb, hf, hsz, _⟩ := setT_get I ha
  refine call_len_set ho hex hd hf (by omega) ⟨.int n, H, (I.tok _), ⟨_, by rw [hsz]⟩, q ⟨es.toList.map keyT, nd, fun k => (hm k).symm, ?_⟩⟩
  rw [List.length_map, Array.length_toList]
  exact hsz
/-- sorted(set), fewer than 64 -/
def rSortTx (w : World) : List V → Hp → VK → Prop := fun vs H Q => ∃ (a : Addr) (S : Str → Bool) (n : Nat), vs = [.ref a] ∧ H a = some (SetTO w a S n) ∧ n < 64 ∧
  ∀ (ns : List Str) (p : Addr), PyProof.Rows.sortedS ns = true → ns.Nodup → (∀ k, k ∈ ns ↔ S k = true) → ns.length = n → H p = none → Q (.ref p) (upd H p (.lst (ns.map V.str)))
theorem cr_sortTx (hc : X.calm = true) : CallR X (.builtin "sorted") (rSortTx X.w) := by
  intro pins s σ H vs us Q I r h
  obtain ⟨a, S, n, rfl, ha, h64, q⟩ := h
  have R := setT_get I ha
  rw [Vals.ref1 r]
  refine sorted_setT R (I.ok.hd hc) h64 fun s' p out c ns k g o hp hg hi hs hnd hm hl => ?_
  have hlen : (ns.map V.str).length ≤ sizeLine := by rw [List.length_map, hl, sizeLine_eq]; omega
  have hn : H p = none := I.hok.fresh hp
  have J : Inv X pins σ (upd H p (.lst (ns.map V.str))) { s with heap := s'.heap, gens := s'.gens, drawn := s'.drawn, toks := s'.toks } :=
    I.call (ch := []) (Un.laid k hp hn) (I.hok.laid k hp ⟨hlen, out.toList, c, vals_of_strs hi, hg⟩) (by rw [g]; exact I.bare) (fun _ z => nomatch z)
  have e : s' = { s with heap := s'.heap, gens := s'.gens, drawn := s'.drawn, toks := s'.toks } := by
    cases s'
    cases s
    cases o
    rfl
  rw [e]
  exact ⟨.ref p, _, J, rfl, q ns p hs hnd hm hl hn⟩
end
end K0

/-! ## B4 -/
set_option maxRecDepth 100000
set_option maxHeartbeats 2000000
noncomputable section
namespace K0
open PySem PySem.Spec PyProof.Rows L2
section
variable {P : Program} {w : World} {A : Around} {E : Value → Shared → Prop} {s : Shared} {T : String} {r d : Addr} {n : Nat} {Pv : Nat → Value → Prop} {OK : Heap → Prop}
/-- tuple(view) -/
theorem tuple_src {Q : Value → Shared → Prop} (K : PySem.W.KdlSrc P w T r d n Pv OK) (hT : s.TypeIs (.ref r) T) (hne : (Value.type T == Value.type "tuple") = false) (hh : A.handled = none) (hok : OK s.heap) (hn : n ≤ sizeLine)
    (h : ∀ (h' : Heap) (tk : Nat) (acc : Array Value), (∀ b o, s.heap.get? b = some o → h'.get? b = some o) → ItemsOf Pv acc n → Q (.ref h'.objs.size) { s with heap := h'.push { cls := .type "tuple", data := .seq acc }, toks := tk }) :
    wpAny (model P w) A (call (.type "tuple") [.ref r]) Q E s := by
  refine callType_codes (Q₁ := fun obj s₁ => s₁.TypeIs obj "tuple" ∧ Q obj s₁) F.called_tuple (F.typeCall_tuple_1 _) F.entry_object_init ?_ fun obj s₁ h₁ => ⟨h₁.1, F.args_object_init_2 obj _, object_init_meets F.called_tuple.init.lookup F.called_tuple.made (by decide) P w A.in1 _ s₁ ⟨h₁.1, rfl, h₁.2⟩⟩
  refine codeAny_of_tree ?_
  show wpAny _ A.in1.in1 (do checkBuiltinCall "tuple.__new__" ⟨[.type "tuple", .ref r], []⟩; again (.builtin "tuple.__new__" ⟨[.type "tuple", .ref r], []⟩)) _ _ s
  refine wpAny_bind (wpAny_of_eq (F.newCall_tuple_1 _) (wpAny_pure ⟨plainId_quiet F.plain_tuple_new _, codeAny_builtin F.entry_tuple_new ?_⟩))
  rw [Around.under_plainId F.plain_tuple_new _]
  have hsub := sub_tuple_self
  have hinit := init_tuple_lookup
  have hmh := madeHere_tuple
  wp_walk using wpAny_typeOf hT, PySem.W.kdu_collect K (by simpa using hh) hok hn
  intro h' tk acc hk hacc
  show wpAny _ _ (Builtin.Tuple.tupleExact acc.toList.toArray >>= fun v => ret v) _ _ _
  unfold Builtin.Tuple.tupleExact
  refine wpAny_bind (wpAny_newObj_type ?_ (by show acc.toList.toArray.size ≤ sizeLine; simp only [Array.toArray_toList]; rw [hacc.1]; exact hn))
  refine wpAny_pure ?_
  have e : acc.toList.toArray = acc := by simp
  rw [e]
  exact ⟨⟨_, Heap.get?_push_size _ rfl, rfl⟩, h h' tk acc hk hacc⟩
end
/-! ### d.values() -/
def ValO (p d : Addr) : HO := .ext fun h => h.IsValuesView p d
theorem valO_at {P : Program} {w : World} {H : Hp} {h : Heap} {p d : Addr} (e : h.IsValuesView p d) : ObjOk P w H h p (ValO p d) := by
  have ⟨o, ho, _⟩ := e
  refine ⟨e, ⟨o, ho⟩, fun h1 h2 q k => ?_⟩
  obtain ⟨o1, a1, a2⟩ := q
  exact ⟨o1, k _ a1, a2⟩
section
variable {X : Cx}
def rVals : V → List V → Hp → VK → Prop := fun x xs H Q => ∃ (d : Addr) (kvs : List (Key × V)), x = .ref d ∧ xs = [] ∧ H d = some (.dK kvs) ∧ ∀ p, H p = none → Q (.ref p) (upd H p (ValO p d))
theorem mt_dvals : MtR X "dict.values" rVals := by
  intro pins s σ H x xs v us Q I rx rxs h
  obtain ⟨d, kvs, rfl, rfl, hd, q⟩ := h
  cases rx
  cases rxs
  obtain ⟨hz, lo, vs, kv, hD⟩ := I.hok d _ hd
  exact call_meetsIn PySem.F.slot_dict_values hD.typeIs PySem.F.entry_dict_values (PySem.F.args_dict_values_1 _) (meets_dict_values (mixKind X.prog X.w) d lo)
    ⟨⟨vs, hD⟩, .ref _, upd H s.heap.objs.size (ValO s.heap.objs.size d), I.laid (t' := s.toks) (fun b u e => Heap.get?_push_of_some _ e) (Nat.le_refl _) (valO_at ⟨_, Heap.get?_push_size _ rfl, rfl, rfl⟩), rfl, q _ (I.hok.fresh (Nat.le_refl _))⟩
theorem vals_snd : ∀ {kvs : List (Key × V)} {vs : List (Key × Value)}, KV kvs vs → Vals (kvs.map (·.2)) (vs.map (·.2))
  | _, _, .nil => .nil
  | _, _, .cons r t => .cons r.2 (vals_snd t)
def rOfVals (mk : List V → HO) : List V → Hp → VK → Prop := fun xs H Q => ∃ (p d : Addr) (kvs : List (Key × V)), xs = [.ref p] ∧ H p = some (ValO p d) ∧ H d = some (.dK kvs) ∧ ∀ t, H t = none → Q (.ref t) (upd H t (mk (kvs.map (·.2))))
theorem call_tupleVals (hc : X.calm = true) : CallR X (.type "tuple") (rOfVals .tup) := by
  intro pins s σ H xs us Q I r h
  obtain ⟨p, d, kvs, rfl, hp, hd, q⟩ := h
  rw [Vals.ref1 r]
  obtain ⟨hz, lo, vs, kv, hD⟩ := I.hok d _ hd
  have hv : s.heap.IsValuesView p d := (I.hok p _ hp).1
  obtain ⟨ep, hat⟩ := hD.dictAt
  have lk : kvs.length = vs.length := Paired.length kv
  refine tuple_src (PySem.W.kdl_values (knd := mixKind X.prog X.w) (kvs := vs) (ep := ep)) hv.typeIs (by decide) (I.ok.hd hc) ⟨hv, hat⟩ (by omega) fun h' tk acc hk hacc => ?_
  have e : acc.toList = vs.map (·.2) := PySem.W.kdl_vals_eq acc.toList (by rw [Array.length_toList]; exact hacc.1) fun j v e => hacc.2 j v (by rw [← Array.getElem?_toList]; exact e)
  have I1 : Inv X pins σ H { s with heap := h', toks := tk } := I.kept hk
  exact ⟨.ref _, upd H h'.objs.size (.tup (kvs.map (·.2))), I1.laid (t' := tk) (fun b u e => Heap.get?_push_of_some _ e) (Nat.le_refl _) ⟨by rw [List.length_map]; omega, acc.toList, by rw [e]; exact vals_snd kv, ⟨_, Heap.get?_push_size _ rfl, rfl, _, rfl⟩⟩, rfl, q _ (I1.hok.fresh (Nat.le_refl _))⟩
theorem call_listVals (hc : X.calm = true) : CallR X (.type "list") (rOfVals .lst) := by
  intro pins s σ H xs us Q I r h
  obtain ⟨p, d, kvs, rfl, hp, hd, q⟩ := h
  rw [Vals.ref1 r]
  obtain ⟨hz, lo, vs, kv, hD⟩ := I.hok d _ hd
  have hv : s.heap.IsValuesView p d := (I.hok p _ hp).1
  obtain ⟨ep, hat⟩ := hD.dictAt
  have lk : kvs.length = vs.length := Paired.length kv
  refine PySem.W.kdl_call (PySem.W.kdl_values (knd := mixKind X.prog X.w) (kvs := vs) (ep := ep)) (I.ok.hd hc) ⟨hv, hat⟩ (by omega) fun h' tk acc c hk hS hacc => ?_
  have e : acc.toList = vs.map (·.2) := PySem.W.kdl_vals_eq acc.toList (by rw [Array.length_toList]; exact hacc.1) fun j v e => hacc.2 j v (by rw [← Array.getElem?_toList]; exact e)
  exact ⟨.ref _, upd H s.heap.objs.size (.lst (kvs.map (·.2))), I.laid (t' := tk) hk (Nat.le_refl _) ⟨by rw [List.length_map]; omega, acc.toList, c, by rw [e]; exact vals_snd kv, by rw [Array.toArray_toList]; exact hS⟩, rfl, q _ (I.hok.fresh (Nat.le_refl _))⟩
end
end K0

/-! ## A2 -/
set_option maxRecDepth 100000
set_option maxHeartbeats 2000000
namespace K0
open PySem L2
/-! ### comprehensions whose element leaves all that is tracked -/
theorem Same.rfl' {H : Hp} : Same H H := fun _ _ h => h
theorem Same.tr {A B C : Hp} (a : Same A B) (b : Same B C) : Same A C := fun c o h => b c o (a c o h)
theorem Same.new {H : Hp} {D : Addr} (o : HO) (h : H D = none) : Same H (upd H D o) := fun b u q => by rw [upd_ne (ne_of_none q h)]; exact q
theorem lc_pure {J : It} {n : Nat} {G : Hp → Prop} {Y : Nat → Hp → V → Hp → Prop} (w : Walk J n G Y) {g : TG} {te : TE} {vs : List Nat} {σ : St} {H1 : Hp} {D : Addr} {Qd : Hp → Prop} (f : Nat → V)
    (hn : n < sizeLine) (hD : H1 D = none) (hG : ∀ H, Same H1 H → G H)
    (hs : ∀ i x H H', i < n → Same H1 H → Y i H x H' → g x (wipe σ vs) H' fun σ2 H2 => wipe σ2 vs = wipe σ vs ∧ ∀ (Q : V → Hp → Prop), (∀ H4, Same H H4 → Q (f i) H4) → te σ2 H2 Q)
    (gm : ∀ x σ H (P R : St → Hp → Prop), (∀ σ2 H2, P σ2 H2 → R σ2 H2) → g x σ H P → g x σ H R)
    (hd : ∀ H, Same H1 H → H D = some (.lst ((List.range n).map f)) → Qd H) :
    ∃ W : Nat → Nat → Hp → Prop, (∃ m, W 0 m (upd H1 D (.lst []))) ∧ ∀ i m H, W i m H →
      (J.stop i H ∧ Qd H) ∨ (J.go i H ∧ ∃ Nx : Hp → Prop, (∀ H', Nx H' → ∃ m', m' < m ∧ W (i + 1) m' H') ∧ ∀ x H', J.yld i H x H' → g x (wipe σ vs) H' fun σ2 H2 => wipe σ2 vs = wipe σ vs ∧ tYes σ2 H2 fun b H3 =>
        if b = true then te σ2 H3 fun y H4 => ∃ acc, H4 D = some (.lst acc) ∧ acc.length < sizeLine ∧ Nx (upd H4 D (.lst (acc ++ [y]))) else Nx H3) := by
  refine lc_it w (fun i H => Same H1 H ∧ H D = some (.lst ((List.range i).map f))) ⟨Same.new _ hD, upd_same⟩ (fun i H _ p => hG H p.1) (fun i x H H' hi p y => ?_) (fun H p => hd H p.1 p.2)
  refine gm _ _ _ _ _ (fun σ2 H2 q => ⟨q.1, ?_⟩) (hs i x H H' hi p.1 y)
  dsimp only [tYes]
  rw [if_pos rfl]
  refine q.2 _ fun H4 s4 => ⟨_, s4 _ _ p.2, ?_, ?_, ?_⟩
  · rw [List.length_map, List.length_range]
    exact Nat.lt_trans hi hn
  · exact fun b o e => by rw [upd_ne (ne_of_none e hD)]; exact s4 _ _ (p.1 _ _ e)
  · rw [upd_same, List.range_succ, List.map_append]
    rfl
theorem gName_mono {i : Nat} : ∀ x σ H (P R : St → Hp → Prop), (∀ σ2 H2, P σ2 H2 → R σ2 H2) → gName i x σ H P → gName i x σ H R := fun _ _ _ _ _ h p => h _ _ p
/-! ### kinds -/
def isIntT : V → Bool
  | .int _ => true
  | .bl _ => true
  | _ => false
def isStrV : V → Bool
  | .str _ => true
  | _ => false
def isTupV (H : Hp) : V → Bool
  | .ref a => match H a with
    | some (.tup _) => true
    | _ => false
  | _ => false
def isDctV (H : Hp) : V → Bool
  | .ref a => match H a with
    | some (.dK _) => true
    | _ => false
  | _ => false
section
variable {K : PySem.W.Frag} {H : Hp} {v : V}
theorem Da.kStr (d : Da H v) : ∃ t, TyX K H v t ∧ PySem.W.kitOne K t (.type "str") = some (isStrV v) := by
  cases d with
  | non => exact ⟨_, .base .non, kit_ty (by decide +kernel)⟩
  | bl b => exact ⟨_, .base (.bl b), kit_ty (by show kitB "bool" "str" = some false; decide +kernel)⟩
  | int b => exact ⟨_, .base (.int b), kit_ty (by show kitB "int" "str" = some false; decide +kernel)⟩
  | str b => exact ⟨_, .base (.str b), kit_ty (by show kitB "str" "str" = some true; decide +kernel)⟩
  | lst b => exact ⟨_, .base (.lst b), kit_ty (by show kitB "list" "str" = some false; decide +kernel)⟩
  | tup b => exact ⟨_, .base (.tup b), kit_ty (by show kitB "tuple" "str" = some false; decide +kernel)⟩
  | dK b => exact ⟨_, .base (.dK b), kit_ty (by show kitB "dict" "str" = some false; decide +kernel)⟩
theorem Da.kTup (d : Da H v) : ∃ t, TyX K H v t ∧ PySem.W.kitOne K t (.type "tuple") = some (isTupV H v) := by
  cases d with
  | non => exact ⟨_, .base .non, kit_ty (by show kitB "NoneType" "tuple" = some false; decide +kernel)⟩
  | bl b => exact ⟨_, .base (.bl b), kit_ty (by show kitB "bool" "tuple" = some false; decide +kernel)⟩
  | int b => exact ⟨_, .base (.int b), kit_ty (by show kitB "int" "tuple" = some false; decide +kernel)⟩
  | str b => exact ⟨_, .base (.str b), kit_ty (by show kitB "str" "tuple" = some false; decide +kernel)⟩
  | lst b => exact ⟨_, .base (.lst b), by simp only [isTupV, b]; exact kit_ty (by decide +kernel)⟩
  | tup b => exact ⟨_, .base (.tup b), by simp only [isTupV, b]; exact kit_ty (by decide +kernel)⟩
  | dK b => exact ⟨_, .base (.dK b), by simp only [isTupV, b]; exact kit_ty (by decide +kernel)⟩
theorem Da.kDct (d : Da H v) : ∃ t, TyX K H v t ∧ PySem.W.kitOne K t (.type "dict") = some (isDctV H v) := by
  cases d with
  | non => exact ⟨_, .base .non, kit_ty (by show kitB "NoneType" "dict" = some false; decide +kernel)⟩
  | bl b => exact ⟨_, .base (.bl b), kit_ty (by show kitB "bool" "dict" = some false; decide +kernel)⟩
  | int b => exact ⟨_, .base (.int b), kit_ty (by show kitB "int" "dict" = some false; decide +kernel)⟩
  | str b => exact ⟨_, .base (.str b), kit_ty (by show kitB "str" "dict" = some false; decide +kernel)⟩
  | lst b => exact ⟨_, .base (.lst b), by simp only [isDctV, b]; exact kit_ty (by decide +kernel)⟩
  | tup b => exact ⟨_, .base (.tup b), by simp only [isDctV, b]; exact kit_ty (by decide +kernel)⟩
  | dK b => exact ⟨_, .base (.dK b), by simp only [isDctV, b]; exact kit_ty (by decide +kernel)⟩
end
/-! ### is_count, is_width -/
def isC : V → Bool
  | .int i => isI (.int i) && decide (0 ≤ i)
  | _ => false
def isW : V → Bool
  | .int i => isI (.int i) && (decide (1 ≤ i) && decide (i ≤ 8))
  | _ => false
theorem isI_int {v : V} (h : isI v = true) : ∃ i, v = .int i := by
  cases v with
  | int i => exact ⟨i, rfl⟩
  | _ => cases h
def spIsCnt : Sp := fun vs H Q _ => ∃ v, vs = [v] ∧ Da H v ∧ Q (.bl (isC v)) H
def spIsWid : Sp := fun vs H Q _ => ∃ v, vs = [v] ∧ Da H v ∧ Q (.bl (isW v)) H
theorem isC_no {v : V} (h : isI v = false) : isC v = false := by
  cases v with
  | int i => show (isI (.int i) && _) = false; rw [h]; rfl
  | _ => rfl
theorem isW_no {v : V} (h : isI v = false) : isW v = false := by
  cases v with
  | int i => show (isI (.int i) && _) = false; rw [h]; rfl
  | _ => rfl
structure T2 (K : PySem.W.Frag) (mg : Str → Option Value) (fI fW : Addr) : Prop extends T1 K mg where
  gI : mg "is_integer" = some (.ref fI)
  kI : PySem.W.keepIn K (.ref fI) = true
  gW : mg "is_width" = some (.ref fW)
  kW : PySem.W.keepIn K (.ref fW) = true
  wid : ∃ t, mg "MAX_WIDTH" = some (.int 8 t)
  let_ : ∃ t, mg "MAX_LETTERS" = some (.int 8 t)
  len : mg "len" = none
  str : mg "str" = none
  tup : mg "tuple" = none
  dct : mg "dict" = none
  all : mg "all" = none
  any : mg "any" = none
section
variable {P : Program} {w : World} {K : PySem.W.Frag} {mg : Str → Option Value} {base : Heap} {fI fW : Addr} {fdI fdW : FuncData}
theorem scIsWid : FnScope ["value"] ["value"] (defScope sIsWid) := ⟨rfl, rfl, rfl, by decide +kernel, rfl, by decide +kernel, by decide +kernel⟩
theorem ok_isWid {f : Addr} {fd : FuncData} (F : Fun K "is_width" "is_width" sIsWid f fd) (T : T2 K mg fI fW) (G : FnOk P w K mg base CX0 1 fI fdI ["value"] spIsInt) (bI : Binds K fdI ["value"] []) : FnOk P w K mg base CX0 2 f fd ["value"] spIsWid := by
  refine F.ok scIsWid (fun vs H Q E h => ?_) (fun cdv A outer s H vs Q E hr h => ?_)
  · obtain ⟨v, rfl, _⟩ := h
    rfl
  · obtain ⟨v, rfl, d, k⟩ := h
    obtain ⟨t, hw⟩ := T.wid
    refine ⟨_, pss_one (ps_ret (pe_and (pe_call G hr rfl T.gI T.kI bI .nil pass0 (pa_cons (pv 0) pa_nil)) (pe_one (pe_chain op_le op_le pe_int (pv 0) (pe_glob (v := .int 8) (by rfl) hw ⟨t, rfl⟩))))), ?_⟩
    refine ⟨_, rfl, v, rfl, d, isI v, rfl, ?_⟩
    by_cases c : isI v = true
    · obtain ⟨i, rfl⟩ := isI_int c
      have e : isW (.int i) = (decide (1 ≤ i) && decide (i ≤ 8)) := by show (isI (.int i) && _) = _; rw [c]; rfl
      rw [e] at k
      refine if_pos_of c ⟨_, rfl, _, _, rfl, rfl, _, rfl, ?_⟩
      by_cases c1 : 1 ≤ i
      · rw [decide_eq_true c1] at k
        exact if_pos_of (decide_eq_true c1) ⟨_, _, rfl, rfl, k⟩
      · rw [decide_eq_false c1] at k
        exact if_neg_of (decide_eq_false c1) k
    · have c' := Bool.eq_false_iff.mpr c
      refine if_neg_of c' ?_
      rw [isW_no c'] at k
      exact k
end
end K0

/-! ## A3 -/
set_option maxRecDepth 100000
set_option maxHeartbeats 2000000
namespace K0
open PySem L2
abbrev sIsNam : Stmt := top 13
abbrev sAreNam : Stmt := top 14
abbrev sIsRow : Stmt := top 999
def lowC (c : Nat) : Bool := decide (97 ≤ c) && decide (c ≤ 122)
def nameS (z : Str) : Bool := (decide (1 ≤ z.length) && decide (z.length ≤ 8)) && z.cps.toList.all lowC
def nameV : V → Bool
  | .str z => nameS z
  | _ => false
/-- texts are short -/
def Sz : V → Prop
  | .str z => z.length ≤ 1000
  | _ => True
theorem lt_a (c : Nat) : decide ([c] < ("a" : Str).cps.toList) = decide (c < 97) := by
  show decide ([c] < [97]) = _
  by_cases h : c < 97 <;> simp [List.cons_lt_cons_iff, h]
theorem lt_z (c : Nat) : decide (("z" : Str).cps.toList < [c]) = decide (122 < c) := by
  show decide ([122] < [c]) = _
  by_cases h : 122 < c <;> simp [List.cons_lt_cons_iff, h]
theorem all_range (z : Str) (p : Nat → Bool) : ((List.range z.cps.size).map fun i => p (z.cps.getD i 0)).all id = z.cps.toList.all p := by
  have e : (List.range z.cps.size).map (fun i => z.cps.getD i 0) = z.cps.toList := by
    apply List.ext_getElem
    · simp
    · intro i h1 h2
      simp at h1
      simp [h1]
  rw [← e, List.all_map, List.all_map]
  rfl
def spIsNam : Sp := fun vs H Q _ => ∃ v, vs = [v] ∧ Da H v ∧ Sz v ∧ ∀ H', Same H H' → Q (.bl (nameV v)) H'
section
variable {P : Program} {w : World} {K : PySem.W.Frag} {mg : Str → Option Value} {base : Heap} {fI fW : Addr} {fdI fdC fdW : FuncData}
theorem scIsNam : FnScope ["value", "letter"] ["value"] (defScope sIsNam) := ⟨rfl, rfl, rfl, by decide +kernel, rfl, by decide +kernel, by decide +kernel⟩
theorem ok_isNam {f : Addr} {fd : FuncData} (F : Fun K "is_name" "is_name" sIsNam f fd) (T : T2 K mg fI fW) : FnOk P w K mg base CX0 1 f fd ["value"] spIsNam := by
  refine F.ok scIsNam (fun vs H Q E h => ?_) (fun cdv A outer s H vs Q E hr h => ?_)
  · obtain ⟨v, rfl, _⟩ := h
    rfl
  · obtain ⟨v, rfl, d, sz, k⟩ := h
    obtain ⟨tl, hl⟩ := T.let_
    refine ⟨_, pss_cons (ps_if (pw_or (pt_not (pt_val (pe_callB call_isi (by rfl) T.isi (by decide +kernel) (pa_cons (pv 0) (pa_cons (pe_bltn (v := .ty "str") (by rfl) T.str (by decide +kernel) rfl) pa_nil)))))
        (pw_or1 (pt_not (pt_chain op_le op_le pe_int (pe_callB call_len_str (by rfl) T.len PySem.boot_len (pa_cons (pv 0) pa_nil)) (pe_glob (v := .int 8) (by rfl) hl ⟨tl, rfl⟩))))).pt
        (pss_one (ps_ret pe_bl)) pss_nil)
      (pss_one (ps_ret (pe_callB (cr_all rfl) (by rfl) T.all (by decide +kernel) (pa_cons (pe_lc (own := [("letter", 1)]) (g := gName 1) (tt := tYes) rfl scIsNam.nd (pi_str (pv 0))
        (blkOk_by (own := [("letter", 1)]) (N := ["value", "letter"]) (sc := defScope sIsNam) (by decide +kernel)) (fun _ _ _ _ _ => pg_name (i := 1) scIsNam.nd rfl (Or.inl rfl)) (fun _ _ _ _ _ => pts_nil)
        (fun _ _ _ _ _ => pe_chain op_le_str op_le_str pe_str (pv 1) pe_str)) pa_nil)))), ?_⟩
    obtain ⟨t, ty, kt⟩ := d.kStr (K := K)
    refine ⟨_, rfl, _, _, t, _, isStrV v, rfl, .ty _, ty, kt, isStrV v, rfl, ?_⟩
    by_cases c : isStrV v = true
    · obtain ⟨z, rfl⟩ : ∃ z, v = .str z := by
        cases v with
        | str z => exact ⟨z, rfl⟩
        | _ => cases c
      have hz : z.length ≤ 1000 := sz
      have e : nameV (.str z) = ((decide (1 ≤ z.length) && decide (z.length ≤ 8)) && z.cps.toList.all lowC) := rfl
      refine if_neg_of (by rw [c]; rfl) ⟨_, rfl, z, rfl, Nat.le_of_lt (small1000 hz), _, _, rfl, rfl, _, rfl, ?_⟩
      by_cases c1 : (1 : Int) ≤ z.length
      · have c1' : decide (1 ≤ z.length) = true := decide_eq_true (by omega)
        refine if_pos_of (decide_eq_true c1) ⟨_, _, rfl, rfl, _, rfl, ?_⟩
        by_cases c2 : (z.length : Int) ≤ 8
        · have c2' : decide (z.length ≤ 8) = true := decide_eq_true (by omega)
          rw [decide_eq_true c2]
          refine if_neg_of rfl ⟨_, rfl, _, rfl, fun D hD => lc_pure (f := fun i => .bl (lowC (z.cps.getD i 0))) walk_str ?_ hD (fun _ _ => True.intro) ?_ gName_mono ?_⟩
          · show z.length < sizeLine
            exact small1000 hz
          · rintro i x H2 H3 hi s2 ⟨rfl, c, hc, rfl⟩
            refine ⟨rfl, fun Q' q => ⟨_, rfl, _, _, rfl, rfl, _, rfl, ?_⟩⟩
            have ec : z.cps.getD i 0 = c := by simp [hc]
            have q0 := q _ (Same.rfl' (H := H3))
            rw [ec] at q0
            show if (!decide ([c] < ("a" : Str).cps.toList)) = true then _ else _
            rw [lt_a]
            by_cases c3 : c < 97
            · refine if_neg_of (by rw [decide_eq_true c3]; rfl) ?_
              have e3 : lowC c = false := by simp [lowC]; omega
              rw [e3] at q0
              exact q0
            · refine if_pos_of (by rw [decide_eq_false c3]; rfl) ⟨_, _, rfl, rfl, ?_⟩
              have e3 : lowC c = !decide (("z" : Str).cps.toList < [c]) := by
                rw [lt_z]
                simp [lowC]
                by_cases h : 122 < c <;> simp [h] <;> omega
              rw [e3] at q0
              exact q0
          · intro H2 s2 hD2
            refine ⟨D, (List.range z.cps.size).map fun i => lowC (z.cps.getD i 0), rfl, ?_, ?_⟩
            · rw [List.map_map]
              exact SqL.of hD2
            · rw [all_range]
              have k' := k H2 s2
              rw [e, c1', c2'] at k'
              exact k'
        · rw [decide_eq_false c2]
          refine if_pos_of rfl ?_
          have k' := k H Same.rfl'
          have c2' : decide (z.length ≤ 8) = false := decide_eq_false (by omega)
          rw [e, c2', Bool.and_false] at k'
          exact k'
      · have c1' : decide (1 ≤ z.length) = false := decide_eq_false (by omega)
        refine if_neg_of (decide_eq_false c1) ⟨_, rfl, ?_⟩
        refine if_pos_of rfl ?_
        have k' := k H Same.rfl'
        rw [e, c1'] at k'
        exact k'
    · have c' := Bool.eq_false_iff.mpr c
      refine if_pos_of (by rw [c']; rfl) ?_
      refine if_pos_of rfl ?_
      have e : nameV v = false := by
        cases v with
        | str z => cases c'
        | _ => rfl
      have k' := k H Same.rfl'
      rw [e] at k'
      exact k'
end
end K0

/-! ## A4 -/
set_option maxRecDepth 100000
set_option maxHeartbeats 2000000
namespace K0
open PySem L2
theorem Da.same {H H' : Hp} {v : V} (d : Da H v) (s : Same H H') : Da H' v := by
  cases d with
  | non => exact .non
  | bl b => exact .bl b
  | int b => exact .int b
  | str b => exact .str b
  | lst b => exact .lst (s _ _ b)
  | tup b => exact .tup (s _ _ b)
  | dK b => exact .dK (s _ _ b)
/-- a tuple's items are data, and few -/
def Tu (H : Hp) (v : V) : Prop := ∀ a xs, v = .ref a → H a = some (.tup xs) → xs.length ≤ 1000 ∧ ∀ x ∈ xs, Da H x ∧ Sz x
def onTup (H : Hp) (p : List V → Bool) : V → Bool
  | .ref a => match H a with
    | some (.tup xs) => p xs
    | _ => false
  | _ => false
theorem onTup_no {H : Hp} {p : List V → Bool} {v : V} (h : isTupV H v = false) : onTup H p v = false := by
  cases v with
  | ref a =>
    simp only [isTupV] at h
    simp only [onTup]
    cases e : H a with
    | none => rfl
    | some o => cases o <;> first | rfl | (simp [e] at h)
  | _ => rfl
theorem isTup_at {H : Hp} {v : V} (h : isTupV H v = true) : ∃ a xs, v = .ref a ∧ H a = some (.tup xs) := by
  cases v with
  | ref a =>
    simp only [isTupV] at h
    cases e : H a with
    | none => simp [e] at h
    | some o => cases o <;> first | exact ⟨a, _, rfl, e⟩ | (simp [e] at h)
  | _ => cases h
theorem all_list (xs : List V) (p : V → Bool) : ((List.range xs.length).map fun i => p (xs.getD i .non)).all id = xs.all p := by
  have e : (List.range xs.length).map (fun i => xs.getD i .non) = xs := by
    apply List.ext_getElem
    · simp
    · intro i h1 h2
      simp at h1
      simp [h1]
  have e2 : xs.all p = ((List.range xs.length).map (fun i => xs.getD i .non)).all p := by rw [e]
  rw [e2, List.all_map, List.all_map]
  rfl
def spAreNam : Sp := fun vs H Q _ => ∃ v, vs = [v] ∧ Da H v ∧ Tu H v ∧ ∀ H', Same H H' → Q (.bl (onTup H (fun xs => xs.all nameV) v)) H'
structure T3 (K : PySem.W.Frag) (mg : Str → Option Value) (fI fW fN : Addr) : Prop extends T2 K mg fI fW where
  gN : mg "is_name" = some (.ref fN)
  kN : PySem.W.keepIn K (.ref fN) = true
section
variable {P : Program} {w : World} {K : PySem.W.Frag} {mg : Str → Option Value} {base : Heap} {fI fW fN : Addr} {fdI fdC fdW fdN : FuncData}
theorem scAreNam : FnScope ["value", "name"] ["value"] (defScope sAreNam) := ⟨rfl, rfl, rfl, by decide +kernel, rfl, by decide +kernel, by decide +kernel⟩
theorem ok_areNam {f : Addr} {fd : FuncData} (F : Fun K "are_names" "are_names" sAreNam f fd) (T : T3 K mg fI fW fN) (G : FnOk P w K mg base CX0 1 fN fdN ["value"] spIsNam) (bN : Binds K fdN ["value"] []) : FnOk P w K mg base CX0 2 f fd ["value"] spAreNam := by
  refine F.ok scAreNam (fun vs H Q E h => ?_) (fun cdv A outer s H vs Q E hr h => ?_)
  · obtain ⟨v, rfl, _⟩ := h
    rfl
  · obtain ⟨v, rfl, d, tu, k⟩ := h
    refine ⟨_, pss_one (ps_ret (pe_and (pe_callB call_isi (by rfl) T.isi (by decide +kernel) (pa_cons (pv 0) (pa_cons (pe_bltn (v := .ty "tuple") (by rfl) T.tup (by decide +kernel) rfl) pa_nil)))
      (pe_one (pe_callB (cr_all rfl) (by rfl) T.all (by decide +kernel) (pa_cons (pe_lc (own := [("name", 1)]) (g := gName 1) (tt := tYes) rfl scAreNam.nd (pi_tup (pv 0))
        (blkOk_by (own := [("name", 1)]) (N := ["value", "name"]) (sc := defScope sAreNam) (by decide +kernel)) (fun _ _ _ _ _ => pg_name (i := 1) scAreNam.nd rfl (Or.inl rfl)) (fun _ _ _ _ _ => pts_nil)
        (fun _ _ _ _ _ => pe_call G hr (by rfl) T.gN T.kN bN .nil pass0 (pa_cons (pv 1) pa_nil))) pa_nil))))), ?_⟩
    obtain ⟨t, ty, kt⟩ := d.kTup (K := K)
    refine ⟨_, rfl, _, _, t, _, isTupV H v, rfl, .ty _, ty, kt, isTupV H v, rfl, ?_⟩
    by_cases c : isTupV H v = true
    · obtain ⟨a, xs, rfl, ha⟩ := isTup_at c
      obtain ⟨hl, hx⟩ := tu a xs rfl ha
      refine if_pos_of c ⟨_, rfl, a, rfl, ⟨_, SqT.of ha⟩, fun D hD => lc_pure (f := fun i => .bl (nameV (xs.getD i .non))) (walk_tup (K := K) (a := a) (xs := xs)) (small1000 hl) hD (fun H1 s1 => SqT.of (s1 _ _ ha)) ?_ gName_mono ?_⟩
      · rintro i x H2 H3 hi s2 ⟨rfl, hxi⟩
        have e : xs.getD i .non = x := by simp [List.getD, hxi]
        obtain ⟨dx, sx⟩ := hx x (List.mem_of_getElem? hxi)
        refine ⟨rfl, fun Q' q => ⟨_, rfl, x, rfl, dx.same s2, sx, fun H4 s4 => ?_⟩⟩
        have q0 := q H4 s4
        rw [e] at q0
        exact q0
      · intro H2 s2 hD2
        refine ⟨D, (List.range xs.length).map fun i => nameV (xs.getD i .non), rfl, ?_, ?_⟩
        · rw [List.map_map]
          exact SqL.of hD2
        · rw [all_list]
          have k' := k H2 s2
          simp only [onTup, ha] at k'
          exact k'
    · have c' := Bool.eq_false_iff.mpr c
      refine if_neg_of c' ?_
      have k' := k H Same.rfl'
      rw [onTup_no c'] at k'
      exact k'
end
end K0

/-! ## A6 -/
set_option maxRecDepth 100000
set_option maxHeartbeats 2000000
namespace K0
open PySem L2
abbrev sDice : Stmt := top 30
abbrev sRoll : Stmt := top 31
abbrev sPick : Stmt := top 32
def DiceAt (H : Hp) (p : Addr) : Prop := ∃ x y z : Int, H p = some (.lst [.int x, .int y, .int z])
/-- all but the dice stay -/
def Kd (p : Addr) (H H' : Hp) : Prop := ∀ b o, b ≠ p → H b = some o → H' b = some o
theorem Kd.rfl' {p : Addr} {H : Hp} : Kd p H H := fun _ _ _ h => h
theorem Kd.tr {p : Addr} {A B C : Hp} (a : Kd p A B) (b : Kd p B C) : Kd p A C := fun c o n h => b c o n (a c o n h)
theorem Kd.of {p : Addr} {A B : Hp} (a : Same A B) : Kd p A B := fun c o _ h => a c o h
theorem Kd.put {p : Addr} {H : Hp} {o : HO} : Kd p H (upd H p o) := fun b u n q => by rw [upd_ne n]; exact q
def spDice (K : PySem.W.Frag) : Sp := fun vs H Q _ => ∃ (a : Addr) (ns : List Int) (i : Int), vs = [.ref a, .int i] ∧ SqL K H a (ns.map V.int) ∧ 0 ≤ i ∧ ∀ H' p, Same H H' → H p = none → DiceAt H' p → Q (.ref p) H'
def spRoll : Sp := fun vs H Q _ => ∃ (p : Addr) (t : Int), vs = [.ref p, .int t] ∧ DiceAt H p ∧ 0 < t ∧ t < 1073741824 ∧ ∀ r H', 0 ≤ r → r < t → Kd p H H' → DiceAt H' p → Q (.int r) H'
def spPick : Sp := fun vs H Q _ => ∃ (p a : Addr) (xs : List V), vs = [.ref p, .ref a] ∧ DiceAt H p ∧ a ≠ p ∧ H a = some (.lst xs) ∧ 0 < xs.length ∧ xs.length ≤ 1000 ∧ ∀ v H', v ∈ xs → Kd p H H' → DiceAt H' p → Q v H'
structure TL (K : PySem.W.Frag) (mg : Str → Option Value) (fR fP : Addr) : Prop where
  int : mg "int" = none
  abs : mg "abs" = none
  max : mg "max" = none
  len : mg "len" = none
  gR : mg "_law_roll" = some (.ref fR)
  kR : PySem.W.keepIn K (.ref fR) = true
  gP : mg "_law_pick" = some (.ref fP)
  kP : PySem.W.keepIn K (.ref fP) = true
theorem mod_cm {a b : Int} : CMul (a % 2305843009213693907) b := .inl ⟨by have := Int.emod_nonneg a (show (2305843009213693907 : Int) ≠ 0 by decide); omega, by have := Int.emod_lt_of_pos a (show (0 : Int) < 2305843009213693907 by decide); omega⟩
theorem big_mul : CMulW ((10 : Int) ^ (60 : Int).toNat) ((10 : Int) ^ (60 : Int).toNat) := by
  unfold CMulW
  decide +kernel
theorem big_pos : (0 : Int) < (10 : Int) ^ (60 : Int).toNat * (10 : Int) ^ (60 : Int).toNat := by decide +kernel
theorem at0 {x y z : V} : atI [x, y, z] 0 = some x := rfl
theorem at1 {x y z : V} : atI [x, y, z] 1 = some y := rfl
theorem at2 {x y z : V} : atI [x, y, z] 2 = some z := rfl
section
variable {P : Program} {w : World} {K : PySem.W.Frag} {mg : Str → Option Value} {base : Heap} {fR fP : Addr} {fdR fdP : FuncData}
theorem scDice : FnScope ["_law_script", "_law_spot", "_law_cell", "_law_left"] ["_law_script", "_law_spot"] (defScope sDice) := ⟨rfl, rfl, rfl, by decide +kernel, rfl, by decide +kernel, by decide +kernel⟩
theorem ok_dice {f : Addr} {fd : FuncData} (F : Fun K "_law_dice" "_law_dice" sDice f fd) (T : TL K mg fR fP) : FnOk P w K mg base CX0 1 f fd ["_law_script", "_law_spot"] (spDice K) := by
  refine F.ok scDice (fun vs H Q E h => ?_) (fun cdv A outer s H vs Q E hr h => ?_)
  · obtain ⟨a, ns, i, rfl, _⟩ := h
    rfl
  · obtain ⟨a, ns, i, rfl, hS, hi, k⟩ := h
    refine ⟨_, pss_cons (ps_set (i := 2) scDice.nd rfl (Or.inl rfl) (pe_ifExp (pt_cmpR op_lt (pv 1) (pe_callB call_len_seq (by rfl) T.len PySem.boot_len (pa_cons (pv 0) pa_nil)) (nomark _))
        (pe_callTy call_int1 (by rfl) T.int (by decide +kernel) (pa_cons (pe_ix ix_list (pv 0) (pv 1) (fun _ _ => rfl)) pa_nil)) (pe_op op_add (pe_op op_mul pe_int (pv 1)) pe_int)))
      (pss_cons (ps_set (i := 3) scDice.nd rfl (Or.inl rfl) (pe_op op_mod (pe_callB (call_max2 rfl) (by rfl) T.max (by decide +kernel) (pa_cons pe_int (pa_cons (pe_op op_sub (pe_callB call_abs (by rfl) T.abs (by decide +kernel) (pa_cons (pv 2) pa_nil)) (pe_op op_pow pe_int pe_int)) pa_nil)))
        (pe_op op_mulW (pe_op op_pow pe_int pe_int) (pe_op op_pow pe_int pe_int))))
      (pss_one (ps_ret (pe_lst (pa_cons (pv 3) (pa_cons (pe_op op_add (pe_op op_add (pe_op op_add (pe_op op_mul (pe_op op_mod (pe_callB call_abs (by rfl) T.abs (by decide +kernel) (pa_cons (pv 2) pa_nil)) pe_int) pe_int) (pe_op op_mul pe_int (pv 1)))
        (pe_op op_mul pe_int (pe_callTy call_int1 (by rfl) T.int (by decide +kernel) (pa_cons (pe_cmpR op_lt (pv 2) pe_int (nomark _)) pa_nil)))) pe_int) (pa_cons pe_int pa_nil))))))), ?_⟩
    refine ⟨_, rfl, _, rfl, a, _, rfl, .inl hS, _, _, rfl, rfl, _, rfl, ?_⟩
    rw [List.length_map]
    by_cases c : i < (ns.length : Int)
    · have hl : i.toNat < ns.length := by omega
      have e : atI (ns.map V.int) ((i.toNat : Nat) : Int) = some (.int ns[i.toNat]) := atI_nat (by rw [List.getElem?_map, List.getElem?_eq_getElem hl]; rfl)
      rw [Int.toNat_of_nonneg hi] at e
      refine if_pos_of (decide_eq_true c) ⟨_, rfl, _, rfl, a, _, _, _, rfl, rfl, hS, e, .inl ⟨_, rfl, ?_⟩⟩
      refine ⟨_, rfl, _, rfl, _, _, rfl, rfl, ⟨by decide, by decide, by decide⟩, _, _, rfl, rfl, _, _, rfl, _, _, rfl, rfl, ⟨by decide, by decide, by decide⟩, _, _, rfl, rfl, ⟨by decide, by decide, by decide⟩, _, _, rfl, rfl, big_mul, _, _, rfl, rfl, big_pos, ?_⟩
      refine ⟨_, rfl, _, rfl, _, rfl, _, _, rfl, rfl, (by show (0 : Int) < 1152921504606846869; decide), _, _, rfl, rfl, .inr ⟨by decide, by decide⟩, _, rfl, _, _, rfl, rfl, .inl ⟨by decide, by decide⟩, _, _, rfl, rfl, ?_⟩
      refine ⟨_, rfl, _, _, rfl, rfl, .inr ⟨_, rfl, _, _, rfl, rfl, .inl ⟨by decide, by decide⟩, _, _, rfl, rfl, _, _, rfl, rfl, ?_⟩⟩
      exact ⟨by show 3 ≤ sizeLine; decide, fun p hp => k _ p (Same.new _ hp) hp ⟨_, _, _, upd_same⟩⟩
    · refine if_neg_of (decide_eq_false c) ⟨_, rfl, _, _, rfl, rfl, .inl ⟨by decide, by decide⟩, _, _, rfl, rfl, ?_⟩
      refine ⟨_, rfl, _, rfl, _, _, rfl, rfl, ⟨by decide, by decide, by decide⟩, _, _, rfl, rfl, _, _, rfl, _, _, rfl, rfl, ⟨by decide, by decide, by decide⟩, _, _, rfl, rfl, ⟨by decide, by decide, by decide⟩, _, _, rfl, rfl, big_mul, _, _, rfl, rfl, big_pos, ?_⟩
      refine ⟨_, rfl, _, rfl, _, rfl, _, _, rfl, rfl, (by show (0 : Int) < 1152921504606846869; decide), _, _, rfl, rfl, .inr ⟨by decide, by decide⟩, _, rfl, _, _, rfl, rfl, .inl ⟨by decide, by decide⟩, _, _, rfl, rfl, ?_⟩
      refine ⟨_, rfl, _, _, rfl, rfl, .inr ⟨_, rfl, _, _, rfl, rfl, .inl ⟨by decide, by decide⟩, _, _, rfl, rfl, _, _, rfl, rfl, ?_⟩⟩
      exact ⟨by show 3 ≤ sizeLine; decide, fun p hp => k _ p (Same.new _ hp) hp ⟨_, _, _, upd_same⟩⟩
theorem scRoll : FnScope ["_law_dice_here", "_law_total", "_law_found", "_law_one", "_law_two"] ["_law_dice_here", "_law_total"] (defScope sRoll) := ⟨rfl, rfl, rfl, by decide +kernel, rfl, by decide +kernel, by decide +kernel⟩
theorem ok_roll {f : Addr} {fd : FuncData} (F : Fun K "_law_roll" "_law_roll" sRoll f fd) (T : TL K mg fR fP) : FnOk P w K mg base CX0 1 f fd ["_law_dice_here", "_law_total"] spRoll := by
  refine F.ok scRoll (fun vs H Q E h => ?_) (fun cdv A outer s H vs Q E hr h => ?_)
  · obtain ⟨a, t, rfl, _⟩ := h
    rfl
  · obtain ⟨p, t, rfl, ⟨x, y, z, hp⟩, h0, h1, k⟩ := h
    refine ⟨_, pss_cons (ps_if (pt_cmpR op_gt (pe_ix ix_list (pv 0) pe_int (fun _ _ => rfl)) pe_int (nomark _))
        (pss_cons (ps_set (i := 2) scRoll.nd rfl (Or.inl rfl) (pe_op op_mod (pe_callTy call_int1 (by rfl) T.int (by decide +kernel) (pa_cons (pe_ix ix_list (pv 0) pe_int (fun _ _ => rfl)) pa_nil)) (pv 1)))
        (pss_cons (ps_asg (pe_op op_fdiv (pe_ix ix_list (pv 0) pe_int (fun _ _ => rfl)) (pv 1)) (pg_sub (pv 0) pe_int set_list))
        (pss_one (ps_ret (pv 2))))) pss_nil)
      (pss_cons (ps_asg (pe_op op_add (pe_ix ix_list (pv 0) pe_int (fun _ _ => rfl)) pe_int) (pg_sub (pv 0) pe_int set_list))
      (pss_cons (ps_set (i := 3) scRoll.nd rfl (Or.inl rfl) (pe_op op_mod (pe_callTy call_int1 (by rfl) T.int (by decide +kernel) (pa_cons (pe_op op_add (pe_ix ix_list (pv 0) pe_int (fun _ _ => rfl)) (pe_op op_mul pe_int (pe_ix ix_list (pv 0) pe_int (fun _ _ => rfl)))) pa_nil)) pe_int))
      (pss_cons (ps_set (i := 4) scRoll.nd rfl (Or.inl rfl) (pe_op op_add (pe_op op_mul (pe_op op_mod (pe_callTy call_int1 (by rfl) T.int (by decide +kernel) (pa_cons (pe_op op_add (pe_op op_mul (pv 3) (pv 3)) (pe_op op_mul pe_int (pe_ix ix_list (pv 0) pe_int (fun _ _ => rfl)))) pa_nil)) pe_int) pe_int) (pv 3)))
      (pss_one (ps_ret (pe_op op_mod (pe_callTy call_int1 (by rfl) T.int (by decide +kernel) (pa_cons (pe_op op_fdiv (pv 4) pe_int) pa_nil)) (pv 1))))))), ?_⟩
    refine ⟨_, rfl, p, _, _, _, rfl, rfl, SqL.of hp, at0, _, _, rfl, rfl, _, rfl, ?_⟩
    by_cases c : (0 : Int) < x
    · refine if_pos_of (decide_eq_true c) ⟨_, rfl, p, _, _, _, rfl, rfl, SqL.of hp, at0, .inl ⟨_, rfl, _, rfl, _, _, rfl, rfl, h0, ?_⟩⟩
      refine ⟨_, rfl, p, _, _, _, rfl, rfl, SqL.of hp, at0, _, rfl, _, _, rfl, rfl, ⟨h0, h1⟩, _, rfl, p, _, _, 0, rfl, rfl, hp, rfl, _, rfl, ?_⟩
      exact k _ _ (Int.emod_nonneg _ (by omega)) (Int.emod_lt_of_pos _ h0) Kd.put ⟨_, _, _, upd_same⟩
    · refine if_neg_of (decide_eq_false c) ?_
      refine ⟨_, rfl, p, _, _, _, rfl, rfl, SqL.of hp, at2, _, _, rfl, rfl, _, rfl, p, _, _, 2, rfl, rfl, hp, rfl, ?_⟩
      refine ⟨_, rfl, p, _, _, _, rfl, rfl, SqL.of upd_same, at1, _, rfl, p, _, _, _, rfl, rfl, SqL.of upd_same, at2, _, _, rfl, rfl, .inl ⟨by decide, by decide⟩, _, _, rfl, rfl, .inl ⟨_, rfl, _, _, rfl, rfl, (by show (0 : Int) < 2305843009213693907; decide), ?_⟩⟩
      refine ⟨_, rfl, _, rfl, _, _, rfl, rfl, mod_cm, _, rfl, p, _, _, _, rfl, rfl, SqL.of upd_same, at2, _, _, rfl, rfl, .inl ⟨by decide, by decide⟩, _, _, rfl, rfl, .inl ⟨_, rfl, _, _, rfl, rfl, (by show (0 : Int) < 2305843009213693921; decide), ?_⟩⟩
      refine ⟨_, _, rfl, rfl, .inr ⟨by decide, by decide⟩, _, rfl, _, _, rfl, rfl, ?_⟩
      refine ⟨_, rfl, _, _, rfl, rfl, ⟨(by show (0 : Int) < 65536; decide), (by show (65536 : Int) < 1073741824; decide)⟩, .inl ⟨_, rfl, _, rfl, _, _, rfl, rfl, h0, ?_⟩⟩
      exact k _ _ (Int.emod_nonneg _ (by omega)) (Int.emod_lt_of_pos _ h0) Kd.put ⟨_, _, _, upd_same⟩
theorem scPick : FnScope ["_law_dice_here", "_law_items"] ["_law_dice_here", "_law_items"] (defScope sPick) := ⟨rfl, rfl, rfl, by decide +kernel, rfl, by decide +kernel, by decide +kernel⟩
theorem ok_pick {f : Addr} {fd : FuncData} (F : Fun K "_law_pick" "_law_pick" sPick f fd) (T : TL K mg fR fP) (G : FnOk P w K mg base CX0 1 fR fdR ["_law_dice_here", "_law_total"] spRoll) (bR : Binds K fdR ["_law_dice_here", "_law_total"] []) :
    FnOk P w K mg base CX0 2 f fd ["_law_dice_here", "_law_items"] spPick := by
  refine F.ok scPick (fun vs H Q E h => ?_) (fun cdv A outer s H vs Q E hr h => ?_)
  · obtain ⟨p, a, xs, rfl, _⟩ := h
    rfl
  · obtain ⟨p, a, xs, rfl, hp, hne, ha, h0, h1, k⟩ := h
    refine ⟨_, pss_one (ps_ret (pe_ix ix_list (pv 1) (pe_call G hr (by rfl) T.gR T.kR bR .nil pass0 (pa_cons (pv 0) (pa_cons (pe_callB call_len_seq (by rfl) T.len PySem.boot_len (pa_cons (pv 1) pa_nil)) pa_nil))) (fun _ _ => rfl))), ?_⟩
    refine ⟨_, rfl, _, rfl, _, rfl, a, xs, rfl, .inl (SqL.of ha), p, _, rfl, hp, by omega, by omega, fun r H' r0 r1 kd dc => ?_⟩
    have hr1 : r.toNat < xs.length := by omega
    have ha' := kd _ _ hne ha
    refine ⟨a, xs, r, xs[r.toNat], rfl, rfl, SqL.of ha', ?_, k _ _ (List.getElem_mem hr1) kd dc⟩
    have e : atI xs ((r.toNat : Nat) : Int) = some xs[r.toNat] := atI_nat (List.getElem?_eq_getElem hr1)
    have e2 : ((r.toNat : Nat) : Int) = r := Int.toNat_of_nonneg r0
    rw [e2] at e
    exact e
end
end K0

/-! ## A7 -/
set_option maxRecDepth 100000
set_option maxHeartbeats 2000000
namespace K0
open PySem L2
abbrev sMixed : Stmt := top 33
abbrev sIsWord : Stmt := top 999
abbrev sWord : Stmt := top 999
abbrev sNumber : Stmt := top 999
/-- a comprehension whose element rolls the dice -/
theorem lc_roll {J : It} {n : Nat} {G : Hp → Prop} {Y : Nat → Hp → V → Hp → Prop} (w : Walk J n G Y) {g : TG} {te : TE} {vs : List Nat} {σ : St} {H1 : Hp} {D p : Addr} {Qd : Hp → Prop} (Gd : V → Prop)
    (hn : n < sizeLine) (hD : H1 D = none) (hp : DiceAt H1 p) (hG : ∀ H, Kd p H1 H → DiceAt H p → G H)
    (hs : ∀ i x H H', i < n → Kd p H1 H → DiceAt H p → Y i H x H' → g x (wipe σ vs) H' fun σ2 H2 => wipe σ2 vs = wipe σ vs ∧ ∀ (Q : V → Hp → Prop), (∀ y H4, Gd y → Kd p H H4 → DiceAt H4 p → Q y H4) → te σ2 H2 Q)
    (gm : ∀ x σ H (P R : St → Hp → Prop), (∀ σ2 H2, P σ2 H2 → R σ2 H2) → g x σ H P → g x σ H R)
    (hd : ∀ H acc, Kd p H1 H → DiceAt H p → H D = some (.lst acc) → acc.length = n → (∀ y ∈ acc, Gd y) → Qd H) :
    ∃ W : Nat → Nat → Hp → Prop, (∃ m, W 0 m (upd H1 D (.lst []))) ∧ ∀ i m H, W i m H →
      (J.stop i H ∧ Qd H) ∨ (J.go i H ∧ ∃ Nx : Hp → Prop, (∀ H', Nx H' → ∃ m', m' < m ∧ W (i + 1) m' H') ∧ ∀ x H', J.yld i H x H' → g x (wipe σ vs) H' fun σ2 H2 => wipe σ2 vs = wipe σ vs ∧ tYes σ2 H2 fun b H3 =>
        if b = true then te σ2 H3 fun y H4 => ∃ acc, H4 D = some (.lst acc) ∧ acc.length < sizeLine ∧ Nx (upd H4 D (.lst (acc ++ [y]))) else Nx H3) := by
  obtain ⟨x0, y0, z0, e0⟩ := hp
  have hDp : p ≠ D := ne_of_none e0 hD
  refine lc_it w (fun i H => Kd p H1 H ∧ DiceAt H p ∧ ∃ acc, H D = some (.lst acc) ∧ acc.length = i ∧ ∀ y ∈ acc, Gd y)
    ⟨Kd.of (Same.new _ hD), ⟨x0, y0, z0, by rw [upd_ne hDp]; exact e0⟩, [], upd_same, rfl, fun y h => by cases h⟩ (fun i H _ q => hG H q.1 q.2.1) (fun i x H H' hi q y => ?_) (fun H q => ?_)
  · obtain ⟨q1, q2, acc, q3, q4, q5⟩ := q
    refine gm _ _ _ _ _ (fun σ2 H2 r => ⟨r.1, ?_⟩) (hs i x H H' hi q1 q2 y)
    dsimp only [tYes]
    rw [if_pos rfl]
    refine r.2 _ fun y H4 gy s4 d4 => ⟨acc, s4 _ _ hDp.symm q3, by omega, ?_, ?_, acc ++ [y], upd_same, by rw [List.length_append, q4]; rfl, ?_⟩
    · exact fun b o nb e => by rw [upd_ne (ne_of_none e hD)]; exact s4 _ _ nb (q1 _ _ nb e)
    · obtain ⟨a1, a2, a3, a4⟩ := d4
      exact ⟨a1, a2, a3, by rw [upd_ne hDp]; exact a4⟩
    · intro u hu
      rcases List.mem_append.mp hu with h | h
      · exact q5 u h
      · rw [List.mem_singleton.mp h]; exact gy
  · obtain ⟨q1, q2, acc, q3, q4, q5⟩ := q
    exact hd H acc q1 q2 q3 q4 q5
theorem erase_perm {α : Type} : ∀ (l : List α) (i : Nat) (h : i < l.length), List.Perm (l[i] :: l.eraseIdx i) l
  | x :: r, 0, _ => .refl _
  | x :: r, i + 1, h => by
    simp only [List.getElem_cons_succ, List.eraseIdx_cons_succ]
    exact (List.Perm.swap x _ _).trans ((erase_perm r i (by simpa using h)).cons x)
def okS (z : Str) : Prop := ∀ c ∈ z.cps.toList, c < 0x110000
theorem okS_app {a b : Str} (ha : okS a) (hb : okS b) : okS (a ++ b) := fun c h => by
  have e : (a ++ b).cps.toList = a.cps.toList ++ b.cps.toList := by
    show (a.cps ++ b.cps).toList = _
    simp
  rw [e] at h
  rcases List.mem_append.mp h with h | h
  · exact ha c h
  · exact hb c h
theorem okS_join : ∀ ys : List Str, (∀ y ∈ ys, okS y) → okS (Str.join "" ys)
  | [], _ => fun c h => by cases h
  | [x], h => h x List.mem_cons_self
  | x :: y :: r, h => okS_app (okS_app (h x List.mem_cons_self) fun c h => by cases h) (okS_join (y :: r) fun z hz => h z (List.mem_cons_of_mem _ hz))
theorem strs_of : ∀ (acc : List V), (∀ y ∈ acc, ∃ c : Nat, c < 256 ∧ y = .str ⟨#[c]⟩) → ∃ ys : List Str, acc = ys.map V.str ∧ (ys.map (·.length)).sum = acc.length ∧ ys.length = acc.length ∧ ∀ y ∈ ys, okS y
  | [], _ => ⟨[], rfl, rfl, rfl, fun y h => by cases h⟩
  | y :: r, h => by
    obtain ⟨c, hc, rfl⟩ := h y List.mem_cons_self
    obtain ⟨ys, e1, e2, e3, e4⟩ := strs_of r fun z hz => h z (List.mem_cons_of_mem _ hz)
    refine ⟨⟨#[c]⟩ :: ys, by rw [e1]; rfl, ?_, by rw [List.length_cons, List.length_cons, e3], fun y hy => ?_⟩
    rotate_left
    · rcases List.mem_cons.mp hy with e | e
      · rw [e]
        intro d hd
        have hd' : d ∈ [c] := hd
        rw [List.mem_singleton.mp hd']
        omega
      · exact e4 y e
    rw [List.map_cons, List.sum_cons, e2, List.length_cons]
    show 1 + _ = _
    omega
def spMixed : Sp := fun vs H Q _ => ∃ (p a : Addr) (xs : List V), vs = [.ref p, .ref a] ∧ DiceAt H p ∧ a ≠ p ∧ H a = some (.lst xs) ∧ xs.length ≤ 1000 ∧ ∀ ys l H', ys.Perm xs → H l = none → H' l = some (.lst ys) → Kd p H H' → DiceAt H' p → Q (.ref l) H'
def spWord : Sp := fun vs H Q _ => ∃ (p : Addr), vs = [.ref p] ∧ DiceAt H p ∧ ∀ z H', z.length ≤ 10 → okS z → Kd p H H' → DiceAt H' p → Q (.str z) H'
def spNumber : Sp := fun vs H Q _ => ∃ (p : Addr), vs = [.ref p] ∧ DiceAt H p ∧ ∀ (n : Int) H', n.natAbs < 2 ^ 300 → Kd p H H' → DiceAt H' p → Q (.int n) H'
theorem forty : CMulW ((10 : Int) ^ (40 : Int).toNat) ((10 : Int) ^ (40 : Int).toNat) := by
  unfold CMulW
  decide +kernel
def nears : List V := [.int 0, .int 1, .int 7, .int ((10 : Int) ^ (6 : Int).toNat), .int ((10 : Int) ^ (59 : Int).toNat), .int ((10 : Int) ^ (60 : Int).toNat), .int ((10 : Int) ^ (60 : Int).toNat), .int ((10 : Int) ^ (40 : Int).toNat * (10 : Int) ^ (40 : Int).toNat)]
theorem near_of {v : V} (h : v ∈ nears) : ∃ n : Int, v = .int n ∧ n.natAbs < 2 ^ 280 := by
  simp only [nears, List.mem_cons, List.not_mem_nil, or_false] at h
  rcases h with h | h | h | h | h | h | h | h <;> exact ⟨_, h, by decide +kernel⟩
structure TM (K : PySem.W.Frag) (mg : Str → Option Value) (fR fP : Addr) : Prop extends TL K mg fR fP where
  list : mg "list" = none
  range : mg "range" = none
section
variable {P : Program} {w : World} {K : PySem.W.Frag} {mg : Str → Option Value} {base : Heap} {fR fP : Addr} {fdR fdP : FuncData}
theorem scMixed : FnScope ["_law_dice_here", "_law_items", "_law_left", "_law_found", "_law_turn"] ["_law_dice_here", "_law_items"] (defScope sMixed) := ⟨rfl, rfl, rfl, by decide +kernel, rfl, by decide +kernel, by decide +kernel⟩
theorem ok_mixed {f : Addr} {fd : FuncData} (F : Fun K "_law_mixed" "_law_mixed" sMixed f fd) (T : TM K mg fR fP) (G : FnOk P w K mg base CX0 1 fR fdR ["_law_dice_here", "_law_total"] spRoll) (bR : Binds K fdR ["_law_dice_here", "_law_total"] []) :
    FnOk P w K mg base CX0 2 f fd ["_law_dice_here", "_law_items"] spMixed := by
  refine F.ok scMixed (fun vs H Q E h => ?_) (fun cdv A outer s H vs Q E hr h => ?_)
  · obtain ⟨p, a, xs, rfl, _⟩ := h
    rfl
  · obtain ⟨p, a, xs, rfl, hp, hne, ha, h1, k⟩ := h
    refine ⟨_, pss_cons (ps_par (i := 2) (j := 3) rfl scMixed.nd rfl rfl (by decide) rfl rfl (pa_cons (pe_callTy call_list_of (by rfl) T.list (by decide +kernel) (pa_cons (pv 1) pa_nil)) (pa_cons (pe_lst pa_nil) pa_nil)) rfl)
      (pss_cons (ps_for PassesOwn.never rfl (pi_range1 (by rfl) T.range (pa_cons (pe_callB call_len_seq (by rfl) T.len PySem.boot_len (pa_cons (pv 1) pa_nil)) pa_nil)) (pg_name (i := 4) scMixed.nd rfl (Or.inl rfl))
        (pss_one (ps_expr (pe_bm PySem.F.plainAttrs_list PySem.F.slot_list_append PySem.F.type_list_append mt_append (pv 3) (pa_cons (pe_bm PySem.F.plainAttrs_list PySem.F.slot_list_pop PySem.F.type_list_pop mt_popAt (pv 2)
          (pa_cons (pe_call G hr (by rfl) T.gR T.kR bR .nil pass0 (pa_cons (pv 0) (pa_cons (pe_callB call_len_seq (by rfl) T.len PySem.boot_len (pa_cons (pv 2) pa_nil)) pa_nil))) pa_nil)) pa_nil)))))
      (pss_one (ps_ret (pv 3)))), ?_⟩
    refine ⟨_, rfl, a, xs, rfl, .inl (SqL.of ha), fun l hl => ?_⟩
    have hal : a ≠ l := ne_of_none ha hl
    have hpl : p ≠ l := by
      obtain ⟨x, y, z, e⟩ := hp
      exact ne_of_none e hl
    refine ⟨Nat.zero_le _, fun q hq => ⟨_, _, rfl, ?_⟩⟩
    have hql : l ≠ q := fun e => by rw [← e, upd_same] at hq; cases hq
    have hq0 : H q = none := by rw [upd_ne hql.symm] at hq; exact hq
    have haq : a ≠ q := ne_of_none ha hq0
    have hpq : p ≠ q := by
      obtain ⟨x, y, z, e⟩ := hp
      exact ne_of_none e hq0
    have ha' : upd (upd H l (.lst xs)) q (.lst []) a = some (.lst xs) := by rw [upd_ne haq, upd_ne hal]; exact ha
    refine ⟨_, rfl, a, xs, rfl, .inl (SqL.of ha'), (xs.length : Int), rfl, by omega, by omega, for_range (n := xs.length) (fun i σ H' => ∃ (left found : List V) (v : Option V), σ = [some (.ref p), some (.ref a), some (.ref l), some (.ref q), v] ∧ Kd p H H' ∧ DiceAt H' p ∧ H' l = some (.lst left) ∧ H' q = some (.lst found) ∧ (found ++ left).Perm xs ∧ left.length + i = xs.length)
      ⟨xs, [], none, rfl, fun b o nb e => ?_, ?_, ?_, upd_same, by simp, rfl⟩ ?_ ?_⟩
    · rw [upd_ne (ne_of_none e hq0), upd_ne (ne_of_none e hl)]; exact e
    · obtain ⟨x, y, z, e⟩ := hp
      exact ⟨x, y, z, by rw [upd_ne hpq, upd_ne hpl]; exact e⟩
    · rw [upd_ne hql, upd_same]
    · rintro i σ H1 hi ⟨left, found, v, rfl, kd, dc, h1l, h1q, pm, len⟩
      have fl : found.length ≤ 1000 := by
        have := pm.length_eq
        rw [List.length_append] at this
        omega
      refine ⟨_, rfl, .inl ⟨rfl, _, SqL.of h1q⟩, _, rfl, .inl ⟨rfl, _, SqL.of h1l⟩, _, rfl, _, rfl, l, left, rfl, .inl (SqL.of h1l), p, _, rfl, dc, by omega, by omega, fun r H2 r0 r1 kd2 dc2 => ?_⟩
      have h2l := kd2 _ _ hpl.symm h1l
      have h2q := kd2 _ _ hpq.symm h1q
      have hr1 : r.toNat < left.length := by omega
      refine ⟨l, left, r, r.toNat, left[r.toNat], rfl, rfl, h2l, by omega, by omega, seqIndex_of r0 r1, List.getElem?_eq_getElem hr1, q, found, _, rfl, rfl, ?_, small1000 fl, ?_⟩
      · rw [upd_ne hql.symm]; exact h2q
      · refine ⟨left.eraseIdx r.toNat, found ++ [left[r.toNat]], _, rfl, fun b o nb e => ?_, ?_, ?_, upd_same, ?_, ?_⟩
        · rw [upd_ne (ne_of_none e hq0), upd_ne (ne_of_none e hl)]
          exact kd2 _ _ nb (kd _ _ nb e)
        · obtain ⟨x, y, z, e⟩ := dc2
          exact ⟨x, y, z, by rw [upd_ne hpq, upd_ne hpl]; exact e⟩
        · rw [upd_ne hql, upd_same]
        · rw [List.append_assoc]
          exact ((erase_perm left r.toNat hr1).append_left found).trans pm
        · rw [List.length_eraseIdx_of_lt hr1]
          omega
    · rintro σ H1 ⟨left, found, v, rfl, kd, dc, h1l, h1q, pm, len⟩
      have hn : left = [] := List.eq_nil_of_length_eq_zero (by omega)
      rw [hn, List.append_nil] at pm
      exact ⟨_, rfl, k found q H1 pm hq0 h1q kd dc⟩
end
end K0

/-! ## A8 -/
set_option maxRecDepth 100000
set_option maxHeartbeats 2000000
namespace K0
open PySem L2
abbrev sDiff : Stmt := top 15
abbrev sDFrom : Stmt := top 999
theorem seqT {K : PySem.W.Frag} {H H' : Hp} {a : Addr} {xs : List V} (e : Same H H') (h : SqT K H a xs) : SqT K H' a xs :=
  h.imp (fun r => r.imp (fun q => e _ _ q) fun ⟨o, q⟩ => ⟨o, e _ _ q⟩) id
/-! ### lists without repetition -/
def ded : List Str → List Str
  | [] => []
  | x :: r => if x ∈ ded r then ded r else x :: ded r
theorem ded_mem : ∀ (xs : List Str) (k : Str), k ∈ ded xs ↔ k ∈ xs
  | [], _ => Iff.rfl
  | x :: r, k => by
    unfold ded
    have ih := ded_mem r
    split
    · rename_i h
      rw [ih, List.mem_cons]
      exact ⟨.inr, fun z => z.elim (fun e => by rw [e]; exact (ih x).mp h) id⟩
    · rw [List.mem_cons, List.mem_cons, ih]
theorem ded_nodup : ∀ xs : List Str, (ded xs).Nodup
  | [] => List.Pairwise.nil
  | x :: r => by
    unfold ded
    split
    · exact ded_nodup r
    · rename_i h
      exact List.nodup_cons.mpr ⟨h, ded_nodup r⟩
theorem ded_le : ∀ xs : List Str, (ded xs).length ≤ xs.length
  | [] => Nat.le_refl _
  | x :: r => by
    unfold ded
    have := ded_le r
    split <;> simp only [List.length_cons] <;> omega
theorem ded_full : ∀ xs : List Str, (ded xs).length = xs.length ↔ xs.Nodup
  | [] => ⟨fun _ => List.Pairwise.nil, fun _ => rfl⟩
  | x :: r => by
    have ih := ded_full r
    have le := ded_le r
    unfold ded
    split
    · rename_i h
      rw [ded_mem] at h
      constructor
      · intro e
        simp only [List.length_cons] at e
        omega
      · intro n
        exact absurd h (List.nodup_cons.mp n).1
    · rename_i h
      rw [ded_mem] at h
      rw [List.nodup_cons, List.length_cons, List.length_cons, Nat.add_right_cancel_iff, ih]
      exact ⟨fun z => ⟨h, z⟩, fun z => z.2⟩
theorem ded_len {xs L : List Str} (h : L.Nodup) (m : ∀ k, k ∈ L ↔ decide (k ∈ xs) = true) : L.length = (ded xs).length :=
  ((List.perm_ext_iff_of_nodup h (ded_nodup xs)).mpr fun k => by rw [m, ded_mem, decide_eq_true_eq]).length_eq
def spDiff (K : PySem.W.Frag) : Sp := fun vs H Q _ => ∃ (a : Addr) (xs : List Str), vs = [.ref a] ∧ (SqT K H a (xs.map V.str) ∨ SqL K H a (xs.map V.str)) ∧ xs.length ≤ 1000 ∧ ∀ H', Same H H' → Q (.bl (decide xs.Nodup)) H'
structure T4 (K : PySem.W.Frag) (mg : Str → Option Value) (fI fW fN : Addr) : Prop extends T3 K mg fI fW fN where
  set : mg "set" = none
def tkeys (kvs : List (Key × V)) (ks : List Str) : Bool := ks.all fun k => (valV kvs (.inr k)).isSome
def onDct (H : Hp) (p : List (Key × V) → Bool) : V → Bool
  | .ref a => match H a with
    | some (.dK kvs) => p kvs
    | _ => false
  | _ => false
theorem onDct_no {H : Hp} {p : List (Key × V) → Bool} {v : V} (h : isDctV H v = false) : onDct H p v = false := by
  cases v with
  | ref a =>
    simp only [isDctV] at h
    simp only [onDct]
    cases e : H a with
    | none => rfl
    | some o => cases o <;> first | rfl | (simp [e] at h)
  | _ => rfl
theorem isDct_at {H : Hp} {v : V} (h : isDctV H v = true) : ∃ a kvs, v = .ref a ∧ H a = some (.dK kvs) := by
  cases v with
  | ref a =>
    simp only [isDctV] at h
    cases e : H a with
    | none => simp [e] at h
    | some o => cases o <;> first | exact ⟨a, _, rfl, e⟩ | (simp [e] at h)
  | _ => cases h
/-- a dict's keys are texts, few -/
def Dk (H : Hp) (v : V) : Prop := ∀ a kvs, v = .ref a → H a = some (.dK kvs) → kvs.length ≤ 1000 ∧ ∀ p ∈ kvs, ∃ z, p.1 = Sum.inr z
def fromP (ks : List Str) (kvs : List (Key × V)) : Bool := decide (kvs.length = (ded ks).length) && tkeys kvs ks
def spDFrom (K : PySem.W.Frag) : Sp := fun vs H Q _ => ∃ (a : Addr) (ks : List Str) (v : V), vs = [.ref a, v] ∧ SqT K H a (ks.map V.str) ∧ ks.length ≤ 1000 ∧ Da H v ∧ Dk H v ∧ ∀ H', Same H H' → Q (.bl (onDct H (fromP ks) v)) H'
theorem strs_all (xs : List Str) (p : Str → Bool) : ((List.range xs.length).map fun i => p (xs.getD i Str.empty)).all id = xs.all p := by
  have e : (List.range xs.length).map (fun i => xs.getD i Str.empty) = xs := by
    apply List.ext_getElem
    · simp
    · intro i h1 h2
      simp at h1
      simp [h1]
  have e2 : xs.all p = ((List.range xs.length).map (fun i => xs.getD i Str.empty)).all p := by rw [e]
  rw [e2, List.all_map, List.all_map]
  rfl
section
variable {P : Program} {w : World} {K : PySem.W.Frag} {mg : Str → Option Value} {base : Heap} {fI fW fN : Addr} {fdI fdC fdW fdN : FuncData}
theorem scDiff : FnScope ["values"] ["values"] (defScope sDiff) := ⟨rfl, rfl, rfl, by decide +kernel, rfl, by decide +kernel, by decide +kernel⟩
theorem ok_diff {f : Addr} {fd : FuncData} (F : Fun K "are_different" "are_different" sDiff f fd) (T : T4 K mg fI fW fN) : FnOk P w K mg base CX0 1 f fd ["values"] (spDiff K) := by
  refine F.ok scDiff (fun vs H Q E h => ?_) (fun cdv A outer s H vs Q E hr h => ?_)
  · obtain ⟨a, xs, rfl, _⟩ := h
    rfl
  · obtain ⟨a, xs, rfl, hs, hl, k⟩ := h
    refine ⟨_, pss_one (ps_ret (pe_cmpR op_eq (pe_callB call_lenTx (by rfl) T.len PySem.boot_len (pa_cons (pe_callTy (cr_setTx rfl) (by rfl) T.set (by decide +kernel) (pa_cons (pv 0) pa_nil)) pa_nil)) (pe_callB call_len_seq (by rfl) T.len PySem.boot_len (pa_cons (pv 0) pa_nil)) (nomark _))), ?_⟩
    refine ⟨_, rfl, a, xs, rfl, hs, hl, fun p n hn hp => ⟨p, _, n, rfl, upd_same, by omega, fun ⟨L, l1, l2, l3⟩ => ?_⟩⟩
    have sm : Same H (upd H p (SetTO w p (fun j => decide (j ∈ xs)) n)) := Same.new _ hp
    have hs' := hs.imp (fun z => seqT sm z) (fun z => sm.seq z)
    refine ⟨_, rfl, a, _, rfl, hs'.symm, rfl, ?_⟩
    have e : n = (ded xs).length := by rw [← l3]; exact ded_len l1 l2
    have e2 : decide (V.int (n : Int) = V.int ((xs.map V.str).length : Int)) = decide xs.Nodup := by
      refine decide_eq_decide.mpr ?_
      rw [V.int.injEq, List.length_map, Int.ofNat_inj, e]
      exact ded_full xs
    have k' := k _ sm
    rw [← e2] at k'
    exact k'
end
end K0

/-! ## D1 -/
set_option maxRecDepth 100000
set_option maxHeartbeats 2000000
namespace K0
open PySem PySem.Spec PyProof.Rows L2
/-! ### defs that are entered where nothing is being shown -/
structure FnG (P : Program) (w : World) (K : PySem.W.Frag) (mg : Str → Option Value) (base : Heap) (CX : CXT) (k : Nat) (f : Addr) (fd : FuncData) (ps : List Str) (sp : Sp) : Prop where
  len : ∀ vs H Q E, sp vs H Q E → vs.length = ps.length
  run : ∀ (A : Around) (outer : List Env) (s : Shared) (H : Hp) (args : Args) (us : List Value) (vs : List V) (Q : VK) (E : XK), Room k A → A.guards = some [] → Env0 P w K mg base A outer s H → BindsTo s fd args (ps.zip us) → Vals vs us → sp vs H Q E →
    codeAny (model P w) A (.call (.ref f) args) (CR CX outer P w H s Q E) s
section
variable {P : Program} {w : World} {K : PySem.W.Frag} {mg : Str → Option Value} {base : Heap}
theorem FnG.of {CX : CXT} {k : Nat} {f : Addr} {fd : FuncData} {ps : List Str} {sp : Sp} (F : FnOk P w K mg base CX k f fd ps sp) : FnG P w K mg base CX k f fd ps sp :=
  ⟨F.len, fun A outer s H args us vs Q E hr _ => F.run A outer s H args us vs Q E hr⟩
/-- the def's body, where nothing is being shown -/
theorem gfn {x qual : Str} {st : Stmt} {f : Addr} {fd : FuncData} {N ps : List Str} {k : Nat} {sp : Sp} {CX : CXT} (F : Fun K x qual st f fd) (S : FnScope N ps (defScope st)) (len : ∀ vs H Q E, sp vs H Q E → vs.length = ps.length)
    (hbody : ∀ (cdv : Value) (A : Around) (outer : List Env) (s : Shared) (H : Hp) (vs : List V) (Q : VK) (E : XK), Room k (A.deeper (envOfC qual (defScope st) s.heap.objs.size f cdv)) → (A.deeper (envOfC qual (defScope st) s.heap.objs.size f cdv)).guards = some [] → sp vs H Q E →
      ∃ t, PSs (cxOf CX P w K mg base N qual (defScope st) f cdv A outer s H E) (defBody st) t ∧ t { nx := fun _ H' => Q .non H', rt := Q } (L2.start N vs) H) : FnG P w K mg base CX (k + 1) f fd ps sp := by
  obtain ⟨oc, od, kV, doc, pm, an, cdv, ct, osl, rfl, lk, hcd⟩ := F.ex
  refine ⟨len, fun A outer s H args us vs Q E hr hgd e0 hb r hsp => ?_⟩
  have hl := len _ _ _ _ hsp
  have KX : K.In s.heap := e0.mod.kin.keeps fun b o e => (e0.bs b o e).1
  have lim : s.heap.NoLimit := e0.mod.nolimit.keeps fun b o e => (e0.bs b o e).1
  have hkind : ∀ y ∈ ps.zip us, (defScope st).names.lookup y.1 = some .local ∨ ((defScope st).names.lookup y.1 = some .cell ∧ ((cellsFrom (s.heap.objs.size + 1) (defScope st).names []).lookup y.1).isSome = true) := fun ⟨n, v⟩ hy => by
    rcases S.par n (List.of_mem_zip hy).1 with q | q
    · exact .inl q
    · exact .inr ⟨q, PySem.W.cellsFrom_some _ _ _ (.inl q)⟩
  refine codeAny_call_function hr.depth (KX _ _ lk) rfl S.co S.gen rfl (PySem.W.codeRec_of KX hcd) (hb _ _ _ _ ?_)
  refine wpAny_newFunctionEnv_cells S.kind hkind fun env he s1 x => ?_
  subst he
  refine ⟨lim.keeps x.toInCall.keep, codeAny_func ?_⟩
  obtain ⟨t, ht, hq⟩ := hbody cdv A outer s H vs Q E (hr.deeper _) (by show A.guards = some []; exact hgd) hsp
  have I : Inv (cxOf CX P w K mg base N qual (defScope st) f cdv A outer s H E) [] (L2.start N vs) H s1 := inv_start S hr.hd e0 hl r x
  refine wpAny_mono (ht.run [] s1 (L2.start N vs) H _ I hq) (fun fl s' hs => ?_) fun e s' hs => hs
  have fin : ∀ {σ' : L2.St} {H' : Hp} {v : V} {u : Value}, Inv (cxOf CX P w K mg base N qual (defScope st) f cdv A outer s H E) [] σ' H' s' → RelV v u → Q v H' → CE outer P w H s Q u s' :=
    fun {σ' H' v u} J rv q => ⟨v, H', J.os, J.bare, J.base, J.hok, rv, q⟩
  cases fl with
  | ret u =>
    obtain ⟨v, σ', H', J, rv, q⟩ := hs
    exact fin J rv q
  | next =>
    obtain ⟨σ', H', J, q⟩ := hs
    exact fin (v := V.non) (u := Value.none) J rfl q
  | brk =>
    obtain ⟨_, _, _, q⟩ := hs
    exact False.elim q
  | cont =>
    obtain ⟨_, _, _, q⟩ := hs
    exact False.elim q
end
section
variable {X : Cx} {CX : CXT} {k : Nat} {f : Addr} {fd : FuncData} {ps : List Str} {sp : Sp} {dvs : List V} {ds : List Value} {E : XK} {x : Str} {p pos : Pos} {e : Expr} {es : List Expr} {t : TA}
theorem pe_callG (F : FnG X.prog X.w X.K X.mg X.base CX k f fd ps sp) (hr : Room k X.A) (hgd : X.A.guards = some []) (hg : Gl X x) (hm : X.mg x = some (.ref f)) (hk : PySem.W.keepIn X.K (.ref f) = true) (hb : Binds X.K fd ps ds) (hd : Vals dvs ds) (hx : Passes CX X E)
    (ha : PA X (e :: es) t) (hdb : (x == ("__debug__" : Str)) = false := by decide) (he : starEach (e :: es) X.env = (false, eval e X.env) :: starEach es X.env := by rfl) (hpl : (backTo pos (starEach es X.env)).any (·.1) = false := by rfl) :
    PE X (.Call (.Name x p) (e :: es) [] pos) (tCall sp dvs E t) := by
  refine ⟨fun pins s σ H Q I h => wpAny_Call_Name_kw (ld_glob I hg hm ?_ hdb)⟩
  refine PySem.W.callWith_K (h₀ := X.base) I.ok.mod.kin hk (thn (ha.run pos pins s σ H _ I h) fun us s1 ⟨vs, H1, I1, r, q⟩ => ⟨I1.kIn, ?_⟩) he hpl
  have r2 : Vals (vs ++ dvs) (us ++ ds) := r.append hd
  have hl : (us ++ ds).length = ps.length := by rw [← r2.length]; exact F.len _ _ _ _ q
  refine wpAny_call (codeAny_mono (F.run X.A X.stack s1 H1 ⟨us, []⟩ (us ++ ds) (vs ++ dvs) Q E hr hgd I1.env0 (hb s1 us I1.kIn hl) r2 q) fun r s' hq => ?_)
  cases r with
  | error e => exact hx pins σ H1 s1 e s' I1 hq
  | ok fl =>
    cases fl with
    | ret u => exact I1.after hq
    | next => exact False.elim hq
    | brk => exact False.elim hq
    | cont => exact False.elim hq
end
/-! ### repr of data -/
/-- data, or a dict without entries -/
inductive Dq (K : PySem.W.Frag) (H : Hp) : V → PyData → Prop
  | of {v : V} {d : PyData} : Dp K H v d → Dq K H v d
  | emp {a : Addr} : H a = some (.dK []) → Dq K H (.ref a) (.dict [])
theorem small_shown {d : PyData} (h : d.shown.length ≤ 1000) : d.shown.length ≤ sizeLine := Nat.le_of_lt (small1000 h)
mutual
theorem dp_nodict {K : PySem.W.Frag} {H : Hp} : ∀ (d : PyData) (v : V), Dp K H v d → d.hasDict = false
  | .none, _, _ => rfl
  | .bool _, _, _ => rfl
  | .int _, _, _ => rfl
  | .str _, _, _ => rfl
  | .list ds, _, h => by
    cases h with
    | lst _ ha => exact dp_nodicts ds _ ha
  | .tuple ds, _, h => by
    cases h with
    | tup _ ha => exact dp_nodicts ds _ ha
  | .dict _, _, h => by cases h
theorem dp_nodicts {K : PySem.W.Frag} {H : Hp} : ∀ (ds : List PyData) (vs : List V), DpAll K H vs ds → PyData.hasDictAll ds = false
  | [], _, _ => rfl
  | d :: ds, _, h => by
    cases h with
    | cons h1 h2 => simp only [PyData.hasDictAll, dp_nodict d _ h1, dp_nodicts ds _ h2, Bool.or_false]
end
def rRepr (K : PySem.W.Frag) : List V → Hp → VK → Prop := fun vs H Q => ∃ (x : V) (d : PyData), vs = [x] ∧ Dq K H x d ∧ d.showable = true ∧ d.depth ≤ 20 ∧ d.shown.length ≤ 1000 ∧ Q (.str d.shown) H
section
variable {X : Cx}
theorem cr_repr (hgd : X.A.guards = some []) (hu : X.A.units + 64 < cLine) : CallR X (.builtin "repr") (rRepr X.K) := by
  intro pins s σ H vs us Q I r h
  obtain ⟨x, d, rfl, hd, hs, hdp, hl, q⟩ := h
  obtain ⟨u, rfl, rx⟩ := vals1 r
  have fin : ∀ h' (t : Tok) tk, (∀ b o, s.heap.get? b = some o → h'.get? b = some o) → EP X pins σ Q (.str d.shown t) { s with heap := h', toks := tk } := fun h' t tk k => ⟨.str d.shown, H, I.kept k, ⟨t, rfl⟩, q⟩
  cases x with
  | non =>
    cases rx
    have e : d = .none := by
      cases hd with
      | of h => cases h; rfl
    subst e
    exact PySem.P.repr_of_none (fin s.heap _ _ fun _ _ e => e)
  | bl b =>
    cases rx
    have e : d = .bool b := by
      cases hd with
      | of h => cases h; rfl
    subst e
    exact PySem.P.repr_of_bool (by
      have z := fin s.heap s.toks (s.toks + 1) fun _ _ e => e
      cases b <;> exact z)
  | int i =>
    obtain ⟨t, rfl⟩ := rx
    have e : d = .int i := by
      cases hd with
      | of h => cases h; rfl
    subst e
    exact PySem.P.repr_of_int (of_decide_eq_true hs) (fin s.heap _ _ fun _ _ e => e)
  | str z =>
    obtain ⟨t, rfl⟩ := rx
    have e : d = .str z := by
      cases hd with
      | of h => cases h; rfl
    subst e
    exact PySem.P.repr_of_str (fin s.heap _ _ fun _ _ e => e) (small_shown hl)
  | ref a =>
    cases rx
    cases hd with
    | of h =>
      obtain ⟨as, rr⟩ := Dp.reads I d (.ref a) (.ref a) h rfl
      exact repr_of_reads' rr hs (PyData.noDict_hsm (dp_nodict d _ h)) hgd (by omega) (fun _ _ e => e) (fun h' t tk k => fin h' t tk k) (small_shown hl)
    | emp h =>
      obtain ⟨_, lo, vs, kv, o, es, ep, ho, ex, hdd, hes, hnd⟩ := I.hok a _ h
      have e1 : vs = [] := by
        cases kv
        rfl
      have lo' : a ≠ sysModules := by simpa using lo
      subst e1
      obtain ⟨pr, _⟩ := hnd
      have e2 : es.toList = [] := by
        cases h5 : es.toList with
        | nil => rfl
        | cons a b => rw [h5] at pr; cases pr
      have rr : Reads s.heap (.ref a) (.dict []) (a :: [] ++ []) := Reads.dict ho ex.1 hdd (by rw [e2]; exact ReadsAll.nil) (by rw [e2]; exact ReadsAll.nil)
      exact repr_of_reads' rr hs (fun _ z => lo' (by have z' : sysModules ∈ [a] := z; exact (List.mem_singleton.mp z').symm)) hgd (by omega) (fun _ _ e => e) (fun h' t tk k => fin h' t tk k) (small_shown hl)
  | byt _ => cases hd with | of h => cases h
  | flt _ => cases hd with | of h => cases h
  | ty _ => cases hd with | of h => cases h
end
end K0

/-! ## C1 -/
set_option maxRecDepth 100000
set_option maxHeartbeats 2000000
namespace PySem
namespace KeepX
open PySem.W PySem.Calls PyProof.Rows PySem.HandSPX Builtin Builtin.ObjectAttr
section
variable {prog : Program} {w : World} {A : Around} {E : Value → Shared → Prop} {R : Result → Shared → Prop} {hp : Heap} {g : Array GenState} {d : Drawn} {t : Nat} {os : OsState}
/-- self.name = v on a new exception over any base -/
theorem osa2 {K : W.Frag} {name : Str} {tk : Tok} {v : Value} {x C : Addr} {fv : Array Value} {B : String} {bmB : List Value} (SF : StoreFacts B bmB "object.__setattr__" "object")
    (X : K.In hp) (hx : hp.get? x = some { cls := .ref C, data := .fields fv }) (hov : excOver K C bmB = true) (hhd : hasDictIn K C = true) (ha : W.findIn K (.ref C) name = some none)
    (hq : ∀ h' tk' dx, (∀ b o, b ≠ x → hp.get? b = some o → h'.get? b = some o) → hp.objs.size ≤ dx → dx ≠ x → h'.get? x = some { cls := .ref C, dict := some dx, data := .fields fv } →
      h'.Ns1 dx (fun y => if y = name then some v else none) → R (.ok (.ret .none)) ⟨h', g, d, tk', os⟩) :
    codeAny (model prog w) A (.call (.builtin "object.__setattr__") ⟨[.ref x, .str name tk, v], []⟩) R ⟨hp, g, d, t, os⟩ := by
  have I : W.InstAt hp x { cls := .ref C, data := .fields fv } C none := ⟨hx, rfl, rfl, trivial⟩
  obtain ⟨cd, hcd, ho⟩ := any_some hov
  obtain ⟨cd2, hcd2, hh⟩ := any_some hhd
  have ecd : cd2 = cd := Option.some.inj (hcd2.symm.trans hcd)
  subst ecd
  try dsimp only at ho
  obtain ⟨bm, hmr0, ht'⟩ : ∃ bm, cd2.mro = .ref C :: bm ∧ excTail bmB bm = true := by
    split at ho
    · rename_i C' bm hm
      rw [Bool.and_eq_true, beq_iff_eq] at ho
      obtain ⟨rfl, ho⟩ := ho
      exact ⟨bm, hm, ho⟩
    · cases ho
  have ne : cd2.mro.isEmpty = false := by rw [hmr0]; rfl
  have hob : cd2.mro.contains (.type "object") = true := by rw [hmr0, List.contains_cons, excTail_contains "object" _ ht', SF.hasOwner, Bool.or_true]
  have hxs : x ≠ hp.objs.size := Nat.ne_of_lt (Heap.lt_size hx)
  have sub : W.Looks (model prog w) hp (isInstance (.ref x) (.type "object")) true := I.type.andThen (W.looks_mroIn X (by unfold W.mroIn; rw [hcd, Option.bind_some, if_neg (by rw [ne]; decide), hob]))
  refine codeAny_call_builtin SF.slot.plain SF.entry (@W.check_slot (model prog w) _ _ ⟨hp, g, d, t, os⟩ "object.__setattr__" "object" "__setattr__" (.ref x) [.str name tk, v] [] _ SF.kind SF.split sub (SF.args (.ref x) (.str name tk) v) ?_)
  have hmr : W.Looks (model prog w) hp (mroOf (.ref C)) cd2.mro := (W.looks_clsIn X hcd).andThen .now
  have L3 : W.Looks (model prog w) hp (storeTaker? none) none := .now
  have hcls : W.Looks (model prog w) hp (classData C) cd2 := W.looks_clsIn X hcd
  rw [W.osa_eq, refuse_eq]
  refine wpAny_bind (wpAny_bind (I.type.at (wpAny_bind (hmr.at ?_))))
  rw [hmr0, refuseLoop_ref, excTail_pass _ (SF.passes _) _ ht']
  refine wpAny_pure (wpAny_bind (I.type.at (wpAny_bind ((W.looks_findIn X ha).at (wpAny_bind (L3.at ?_))))))
  show wpAny _ _ (storeInOwnDict (.ref x) (.ref C) (.str name tk) name v false) _ _ _
  clear hmr0 ho hov hhd hcd2
  obtain ⟨nm, bs, mro, ns, qn, hd, sn, sb, ab, col, del⟩ := cd2
  dsimp only at hh
  subst hh
  unfold storeInOwnDict ownDictForStores
  repeat (first | with_reducible refine store_in_new ?_ ?_ | with_reducible refine wpAny_loadPart_at hx ?_ | with_reducible refine hcls.at ?_ | wp_step)
  · exact ⟨_, #[], _, (Heap.get?_update_ne _ _ _ _ hxs.symm).trans (Heap.get?_push_at rfl rfl), rfl, fun e he => absurd he (by simp), fun _ => rfl⟩
  · intro h' tk' hn' hs
    have hx₁ : (hp.push { cls := .type "dict", data := .dict #[] }).get? x = some { cls := .ref C, data := .fields fv } := Heap.get?_push_of_some _ hx
    refine hq h' tk' hp.objs.size (fun b o hb ho => ?_) (Nat.le_refl _) hxs.symm ?_ hn'
    · exact (hs.2 b (Nat.ne_of_lt (Heap.lt_size ho))).trans ((Heap.get?_update_ne _ _ _ _ hb).trans (Heap.get?_push_of_some _ ho))
    · exact (hs.2 x hxs).trans (Heap.get?_update_self _ hx₁ rfl)
end
end KeepX
end PySem

/-! ## C2 -/
set_option maxRecDepth 100000
set_option maxHeartbeats 2000000
namespace PySem
namespace KeepX
open PySem.W PySem.Calls PyProof.Rows PySem.HandSPX
theorem one_size (v : Value) : [v].length ≤ sizeLine := by
  rw [sizeLine_eq]
  exact (by decide : 1 ≤ 16777216)
theorem ldC {M : Model} {s : Shared} {name : Str} {scope : Scope} {L a : Addr} {cd : Value} {m : Str → Option Value} {x : Str} {pos : Pos} {v : Value} {Q : Value → Shared → Prop} {A : Around} {E : Value → Shared → Prop} (hn : s.heap.Ns L m) (hv : m x = some v) (h : Q v s)
    (hk : scope.kind = .function := by rfl) (hl : (envOfC name scope L a cd).kindOf x = some .local := by rfl) (hd : (x == ("__debug__" : Str)) = false := by decide) :
    wpAny M A (eval (.Name x pos) (envOfC name scope L a cd)) Q E s := wpAny_Name (wpAny_loadName_local hk hl hn hv h) hd
/-- what the written part says of a class that keeps a value in f -/
structure Cls0 (K : Frag) (mg : Str → Option Value) (x : Str) (C : Addr) (f : Str) (bmB : List Value) (newId : String) : Prop where
  gC : mg x = some (.ref C)
  kC : keepIn K (.ref C) = true
  q : excInitIn K C bmB newId = true
  ov : excOver K C bmB = true
  hd : hasDictIn K C = true
  sa : findIn K (.ref C) "__setattr__" = some (some (.builtin "object.__setattr__"))
  noN : findIn K (.ref C) f = some none
  exC : subIn K (.ref C) (.type "BaseException") = some true
  tyC : typeIn K (.ref C) = some (.type "type")
/-- what __init__ leaves of a fresh exception at x -/
structure InitEnd (f : Str) (h h' : Heap) (x C dx t1 : Addr) (v : Value) : Prop where
  keep : ∀ b o, b ≠ x → h.get? b = some o → h'.get? b = some o
  obj : h'.get? x = some { cls := .ref C, dict := some dx, data := .fields #[.ref t1, .none, .none, .none, .bool false, .none] }
  dbig : h.objs.size ≤ dx
  dne : dx ≠ x
  ns : h'.Ns1 dx (fun y => if y = f then some v else none)
/-- a made one -/
structure OwnMade (f : Str) (h h' : Heap) (e C d : Addr) (v : Value) : Prop where
  keep : ∀ b o, h.get? b = some o → h'.get? b = some o
  new : h.objs.size ≤ e
  obj : ∃ t1 : Addr, h'.get? e = some { cls := .ref C, dict := some d, data := .fields #[.ref t1, .none, .none, .none, .bool false, .none] }
  dbig : h.objs.size ≤ d
  dne : d ≠ e
  ns : h'.Ns1 d (fun y => if y = f then some v else none)
section
variable {prog : Program} {w : World} {A : Around} {R : Result → Shared → Prop} {s : Shared} {K : Frag} {mg : Str → Option Value} {C fI : Addr}
theorem made0 {x f : Str} {bmB : List Value} {B newId initId : String} (F : ExcBaseFacts B newId initId bmB) (T : Cls0 K mg x C f bmB newId) (iC : findIn K (.ref C) "__init__" = some (some (.ref fI))) (tF : typeIn K (.ref fI) = some (.type "function")) {v : Value}
    (init : ∀ {A : Around} {s : Shared} (x t0 : Addr) (R : Result → Shared → Prop), K.In s.heap → s.heap.NoLimit → s.heap.get? x = some (excO C t0) → K.lookup x = none → A.depth < recursionLimit →
      (∀ h' tk dx, InitEnd f s.heap h' x C dx t0 v → R (.ok (.ret .none)) { s with heap := h', toks := tk }) → codeAny (model prog w) A (.call (.ref fI) ⟨[.ref x, v], []⟩) R s)
    (X : K.In s.heap) (hlim : s.heap.NoLimit) (hroom : A.depth + 1 < recursionLimit)
    (hq : ∀ h' tk e d, OwnMade f s.heap h' e C d v → R (.ok (.ret (.ref e))) { s with heap := h', toks := tk }) :
    codeAny (model prog w) A (.call (.ref C) ⟨[v], []⟩) R s := by
  obtain ⟨nm, N', qn, bs, bm, hdct, sn, sub, ab, col, dd, k0, k1, k2, k3, k5, hC, hT⟩ := excInit_of X T.q
  obtain ⟨hp, g, dr, tk, os⟩ := s
  have k : ∀ b o, hp.get? b = some o → ((hp.push (kdv_tup [v])).push (excO C hp.objs.size)).get? b = some o := fun b o e => Heap.get?_push_of_some _ (Heap.get?_push_of_some _ e)
  have hget : ((hp.push (kdv_tup [v])).push (excO C hp.objs.size)).get? (hp.objs.size + 1) = some (excO C hp.objs.size) := by heap_get
  have hnx : K.lookup (hp.objs.size + 1) = none := by
    cases e : K.lookup (hp.objs.size + 1) with
    | none => rfl
    | some o => exact absurd (Nat.lt_of_succ_lt (Heap.lt_size (X _ _ e))) (Nat.lt_irrefl _)
  refine call_own F hT hC (looks_findIn X iC) (fun self => bind_fn X self tF) (one_size v) ?_
  refine init (s := ⟨(hp.push (kdv_tup [v])).push (excO C hp.objs.size), g, dr, tk, os⟩) (hp.objs.size + 1) hp.objs.size _ (X.keeps k) (hlim.keeps k) hget hnx ?_ fun h' tk' dx ⟨k', hx, dn, dne, hns⟩ => ?_
  · show A.depth + 1 < recursionLimit
    exact hroom
  · have old : ∀ b o, hp.get? b = some o → h'.get? b = some o := fun b o e => k' b o (Nat.ne_of_lt (Nat.lt_succ_of_lt (Heap.lt_size e))) (k b o e)
    have z : hp.objs.size + 1 + 1 ≤ dx := by
      first
        | (simpa only [Heap.size_push] using dn)
        | exact dn
        | (have q := dn; rw [Heap.size_push, Heap.size_push] at q; exact q)
    exact ⟨rfl, hq h' tk' (hp.objs.size + 1) dx ⟨old, Nat.le_succ _, ⟨_, hx⟩, Nat.le_trans (Nat.le_trans (Nat.le_succ _) (Nat.le_succ _)) z, dne, hns⟩⟩
end
namespace Num
open PySem.W PySem.Calls PyProof.Rows PySem.HandSPX
def iA (p1 p2 : Pos) : Arguments := { posonlyargs := [], args := [{ arg := "self", annotation := none, pos := p1 }, { arg := "value", annotation := none, pos := p2 }], vararg := none, kwonlyargs := [], kw_defaults := [], kwarg := none, defaults := [] }
def iB (q1 q2 q3 q4 : Pos) : List Stmt := [.Assign [.Attribute (.Name "self" q1) "value" q2] (.Name "value" q3) q4]
def iS : Scope := { kind := .function, names := [(PySem.Str.ofString "self", .local), (PySem.Str.ofString "value", .local)], isGenerator := false, isCoroutine := false, more := [] }
def bmB : List Value := [.type "IndexError", .type "LookupError", .type "Exception", .type "BaseException", .type "object"]
/-- what the written part says of InvalidNumber, at C, and of its __init__, at fI -/
structure Txt (K : Frag) (mg : Str → Option Value) (C fI : Addr) : Prop extends Cls0 K mg "InvalidNumber" C "value" bmB "IndexError.__new__" where
  iC : findIn K (.ref C) "__init__" = some (some (.ref fI))
  tC2 : typeIn K (.ref fI) = some (.type "function")
  fn : ∃ (oc : Value) (od : Option Addr) (doc pm : Value) (an : Option Addr) (cdv ct : Value) (osl : Array (Option Value)) (p1 p2 q1 q2 q3 q4 : Pos),
    K.lookup fI = some ⟨oc, od, .func (fnOf "__init__" "InvalidNumber.__init__" (iA p1 p2) (iB q1 q2 q3 q4) iS .none .none doc pm an cdv ct), osl⟩ ∧ codeIn K cdv "InvalidNumber.__init__" = true
section
variable {prog : Program} {w : World} {A : Around} {E : Value → Shared → Prop} {R : Result → Shared → Prop} {s : Shared} {K : Frag} {mg : Str → Option Value} {C fI : Addr}
theorem init1 (T : Txt K mg C fI) {x t0 : Addr} {v : Value} (X : K.In s.heap) (hlim : s.heap.NoLimit) (hx : s.heap.get? x = some (excO C t0)) (hnx : K.lookup x = none) (hroom : A.depth < recursionLimit)
    (hq : ∀ h' tk dx, InitEnd "value" s.heap h' x C dx t0 v → R (.ok (.ret .none)) { s with heap := h', toks := tk }) :
    codeAny (model prog w) A (.call (.ref fI) ⟨[.ref x, v], []⟩) R s := by
  obtain ⟨oc, od, doc, pm, an, cdv, ct, osl, p1, p2, q1, q2, q3, q4, ho, hcd⟩ := T.fn
  refine Att.call_fn (binds := [("self", .ref x), ("value", v)]) X hlim ho hcd hroom (BindsTo.of_eq (by first | rfl | with_unfolding_all rfl)) (by first | rfl | decide | with_unfolding_all rfl) (fun s₁ IC => ?_) rfl rfl rfl
  obtain ⟨h₁, tk₁, rfl⟩ := IC.toInCall.same
  have k : ∀ b o, s.heap.get? b = some o → h₁.get? b = some o := IC.toInCall.keep
  have hn := IC.toInCall.ns
  have X₁ : K.In h₁ := X.keeps k
  have hx₁ := k _ _ hx
  show wpAny _ _ (execs _ _) _ _ _
  refine wpAny_execs_cons (plainObj_wpAny_Assign_Attribute ?_)
  refine ldC (v := v) hn (by first | rfl | with_unfolding_all rfl | kernel_rfl) (ldC (v := .ref x) hn (by first | rfl | with_unfolding_all rfl | kernel_rfl) ?_)
  refine set_plain X₁ (ox := excO C t0) (od := none) ⟨hx₁, rfl, rfl, trivial⟩ T.sa ?_
  refine osa2 PySem.F.store_IndexError X₁ hx₁ T.ov T.hd T.noN (fun h₃ tk₃ dx k₃ dn dne hx₃ hn₃ => ?_)
  show wpAny _ _ (execs _ _) _ _ _
  have z : s.heap.objs.size < h₁.objs.size := hn.lt
  exact wpAny_execs_nil (hq h₃ tk₃ dx ⟨fun b o hb e => k₃ b o hb (k b o e), hx₃, Nat.le_of_lt (Nat.lt_of_lt_of_le z dn), dne, hn₃⟩)
theorem made1 (T : Txt K mg C fI) {v : Value} (X : K.In s.heap) (hlim : s.heap.NoLimit) (hroom : A.depth + 1 < recursionLimit)
    (hq : ∀ h' tk e d, OwnMade "value" s.heap h' e C d v → R (.ok (.ret (.ref e))) { s with heap := h', toks := tk }) :
    codeAny (model prog w) A (.call (.ref C) ⟨[v], []⟩) R s :=
  made0 PySem.F.excBase_IndexError T.toCls0 T.iC T.tC2 (fun {A s} x t0 R X hlim hx hnx hroom hq => init1 T X hlim hx hnx hroom hq) X hlim hroom hq
end
end Num
end KeepX
end PySem

/-! ## C3 -/
set_option maxRecDepth 100000
set_option maxHeartbeats 2000000
namespace K0
open PySem PySem.Spec PyProof.Rows L2 PySem.KeepX
theorem relO_keep {v : V} {v' : Value} (r : RelV v v') (f g : Str) : RelO (List.lookup g [(f, v)]) (if g = f then some v' else none) := by
  by_cases hw : g = f
  · subst hw
    rw [if_pos rfl]
    have q : List.lookup g [(g, v)] = some v := by simp [List.lookup]
    rw [q]
    exact r
  · rw [if_neg hw]
    have qw : (g == f) = false := by simpa using hw
    have q2 : List.lookup g [(f, v)] = none := by simp [List.lookup, qw]
    rw [q2]
    trivial
/-- an own class that keeps a value in f can be called -/
def Makes (K : PySem.W.Frag) (P : Program) (w : World) (C : Addr) (f : Str) : Prop := ∀ {A : Around} {R : Result → Shared → Prop} {s : Shared} {v : Value}, K.In s.heap → s.heap.NoLimit → A.depth + 1 < recursionLimit →
  (∀ h' tk e d, OwnMade f s.heap h' e C d v → R (.ok (.ret (.ref e))) { s with heap := h', toks := tk }) → codeAny (model P w) A (.call (.ref C) ⟨[v], []⟩) R s
section
variable {X : Cx} {C : Addr} {x f : Str} {bmB : List Value} {newId : String}
/-- X(e) -/
def tMkKeep (C : Addr) (f : Str) (ta : TA) : L2.St → Hp → XK → Prop := fun σ H Q => ta σ H fun vs H1 => ∃ v, vs = [v] ∧ ∀ d, H1 d = none → Q (.ref C) (some d) (upd H1 d (.xd [(f, v)]))
theorem pmk_keep {a : Expr} {ta : TA} {p pos : Pos} {k : Nat} (T : Cls0 X.K X.mg x C f bmB newId) (mk : Makes X.K X.prog X.w C f) (hr : Room k X.A) (ha : PA X [a] ta) (hg : Gl X x := by rfl)
    (hdb : (x == ("__debug__" : Str)) = false := by decide)
    (he : starEach (a :: []) X.env = (false, eval a X.env) :: starEach [] X.env := by rfl) (hpl : (backTo pos (starEach [] X.env)).any (·.1) = false := by rfl) :
    PMk X (.Call (.Name x p) [a] [] pos) (tMkKeep C f ta) := by
  intro pins s σ H Q I h
  refine wpAny_Call_Name_kw (ld_glob I hg T.gC ?_ hdb)
  refine PySem.W.callWith_K (h₀ := X.base) I.ok.mod.kin T.kC (thn (ha.run pos pins s σ H _ I h) fun us s1 hh => ?_) he hpl
  obtain ⟨vs, H1, I1, r1, v, ev, q1⟩ := hh
  subst ev
  refine ⟨I1.kIn, ?_⟩
  obtain ⟨v', rfl, rv⟩ := vals1 r1
  show wpAny _ _ (call (.ref C) [v']) _ _ _
  have hlim := I1.nolimit
  obtain ⟨hp, g, dr, tk, os⟩ := s1
  refine wpAny_call (mk I1.kIn hlim (by have := hr.dp; omega) fun h' tk' e d M => ?_)
  show MkP X pins σ Q (.ref e) ⟨h', g, dr, tk', os⟩
  obtain ⟨t1, hoe⟩ := M.obj
  have hns := M.ns
  obtain ⟨G', g1, g2⟩ := restrict h' fun b => decide (b ≠ e)
  have gk : ∀ b, b ≠ e → G'.get? b = h'.get? b := fun b hb => g1 b (decide_eq_true hb)
  have ge : G'.get? e = none := g2 e (by simp)
  have old : ∀ b o, hp.get? b = some o → G'.get? b = some o := fun b o q => (gk b (Nat.ne_of_lt (Nat.lt_of_lt_of_le (Heap.lt_size q) M.new))).trans (M.keep b o q)
  have ob : ObjOk X.prog X.w (upd H1 d (.xd [(f, v)])) G' d (.xd [(f, v)]) := ⟨_, hns.at (fun o q => (gk d M.dne).trans q), fun g => relO_keep rv f g⟩
  have J : Inv X pins σ (upd H1 d (.xd [(f, v)])) ⟨G', g, dr, tk', os⟩ := I1.laid (t' := tk') old M.dbig ob
  refine ⟨e, _, _, ⟨G', g, dr, tk', os⟩, _, .ref C, some d, rfl, J, fun b o q => ?_, ge, hoe, ⟨rfl, rfl⟩, rfl, rfl, ?_, rfl, I1.bare, raises_own T.exC T.tyC, q1 d (I1.hok.fresh M.dbig)⟩
  · by_cases hb : b = e
    · have q' : G'.get? b = some o := q
      rw [hb, ge] at q'; cases q'
    · exact (gk b hb).symm.trans q
  · rw [upd_ne (Ne.symm M.dne)]
    exact I1.hok.fresh M.new
def tRaiseKeep (C : Addr) (f : Str) (W : WX) (ta : TA) : TS := fun _ σ H => tMkKeep C f ta σ H fun cls d H' => W cls d σ H'
theorem ps_raiseKeep {a : Expr} {ta : TA} {W : WX} {p pos pos2 : Pos} {k : Nat} (hc : X.calm = true) (T : Cls0 X.K X.mg x C f bmB newId) (mk : Makes X.K X.prog X.w C f) (hr : Room k X.A) (tk : Takes X W) (ha : PA X [a] ta) (hg : Gl X x := by rfl)
    (hdb : (x == ("__debug__" : Str)) = false := by decide)
    (he : starEach (a :: []) X.env = (false, eval a X.env) :: starEach [] X.env := by rfl) (hpl : (backTo pos (starEach [] X.env)).any (·.1) = false := by rfl) :
    PS X (.Raise (some (.Call (.Name x p) [a] [] pos)) none pos2) (tRaiseKeep C f W ta) := ps_raise hc tk (pmk_keep T mk hr ha hg hdb he hpl)
end
end K0

/-! ## C4P -/
set_option maxRecDepth 100000
set_option maxHeartbeats 2000000
namespace PySem
namespace KeepX
namespace Par
open PySem.W PySem.Calls PyProof.Rows PySem.HandSPX
def iA (p1 p2 : Pos) : Arguments := { posonlyargs := [], args := [{ arg := "self", annotation := none, pos := p1 }, { arg := "number", annotation := none, pos := p2 }], vararg := none, kwonlyargs := [], kw_defaults := [], kwarg := none, defaults := [] }
def iB (q1 q2 q3 q4 : Pos) : List Stmt := [.Assign [.Attribute (.Name "self" q1) "number" q2] (.Name "number" q3) q4]
def iS : Scope := { kind := .function, names := [(PySem.Str.ofString "self", .local), (PySem.Str.ofString "number", .local)], isGenerator := false, isCoroutine := false, more := [] }
def bmB : List Value := [.type "ValueError", .type "Exception", .type "BaseException", .type "object"]
/-- what the written part says of ParseError, at C, and of its __init__, at fI -/
structure Txt (K : Frag) (mg : Str → Option Value) (C fI : Addr) : Prop extends Cls0 K mg "ParseError" C "number" bmB "ValueError.__new__" where
  iC : findIn K (.ref C) "__init__" = some (some (.ref fI))
  tC2 : typeIn K (.ref fI) = some (.type "function")
  fn : ∃ (oc : Value) (od : Option Addr) (doc pm : Value) (an : Option Addr) (cdv ct : Value) (osl : Array (Option Value)) (p1 p2 q1 q2 q3 q4 : Pos),
    K.lookup fI = some ⟨oc, od, .func (fnOf "__init__" "ParseError.__init__" (iA p1 p2) (iB q1 q2 q3 q4) iS .none .none doc pm an cdv ct), osl⟩ ∧ codeIn K cdv "ParseError.__init__" = true
section
variable {prog : Program} {w : World} {A : Around} {E : Value → Shared → Prop} {R : Result → Shared → Prop} {s : Shared} {K : Frag} {mg : Str → Option Value} {C fI : Addr}
theorem init1 (T : Txt K mg C fI) {x t0 : Addr} {v : Value} (X : K.In s.heap) (hlim : s.heap.NoLimit) (hx : s.heap.get? x = some (excO C t0)) (hnx : K.lookup x = none) (hroom : A.depth < recursionLimit)
    (hq : ∀ h' tk dx, InitEnd "number" s.heap h' x C dx t0 v → R (.ok (.ret .none)) { s with heap := h', toks := tk }) :
    codeAny (model prog w) A (.call (.ref fI) ⟨[.ref x, v], []⟩) R s := by
  obtain ⟨oc, od, doc, pm, an, cdv, ct, osl, p1, p2, q1, q2, q3, q4, ho, hcd⟩ := T.fn
  refine Att.call_fn (binds := [("self", .ref x), ("number", v)]) X hlim ho hcd hroom (BindsTo.of_eq (by first | rfl | with_unfolding_all rfl)) (by first | rfl | decide | with_unfolding_all rfl) (fun s₁ IC => ?_) rfl rfl rfl
  obtain ⟨h₁, tk₁, rfl⟩ := IC.toInCall.same
  have k : ∀ b o, s.heap.get? b = some o → h₁.get? b = some o := IC.toInCall.keep
  have hn := IC.toInCall.ns
  have X₁ : K.In h₁ := X.keeps k
  have hx₁ := k _ _ hx
  show wpAny _ _ (execs _ _) _ _ _
  refine wpAny_execs_cons (plainObj_wpAny_Assign_Attribute ?_)
  refine ldC (v := v) hn (by first | rfl | with_unfolding_all rfl | kernel_rfl) (ldC (v := .ref x) hn (by first | rfl | with_unfolding_all rfl | kernel_rfl) ?_)
  refine set_plain X₁ (ox := excO C t0) (od := none) ⟨hx₁, rfl, rfl, trivial⟩ T.sa ?_
  refine osa2 PySem.F.store_ValueError X₁ hx₁ T.ov T.hd T.noN (fun h₃ tk₃ dx k₃ dn dne hx₃ hn₃ => ?_)
  show wpAny _ _ (execs _ _) _ _ _
  have z : s.heap.objs.size < h₁.objs.size := hn.lt
  exact wpAny_execs_nil (hq h₃ tk₃ dx ⟨fun b o hb e => k₃ b o hb (k b o e), hx₃, Nat.le_of_lt (Nat.lt_of_lt_of_le z dn), dne, hn₃⟩)
theorem made1 (T : Txt K mg C fI) {v : Value} (X : K.In s.heap) (hlim : s.heap.NoLimit) (hroom : A.depth + 1 < recursionLimit)
    (hq : ∀ h' tk e d, OwnMade "number" s.heap h' e C d v → R (.ok (.ret (.ref e))) { s with heap := h', toks := tk }) :
    codeAny (model prog w) A (.call (.ref C) ⟨[v], []⟩) R s :=
  made0 PySem.F.excBase_ValueError T.toCls0 T.iC T.tC2 (fun {A s} x t0 R X hlim hx hnx hroom hq => init1 T X hlim hx hnx hroom hq) X hlim hroom hq
end
end Par
end KeepX
end PySem

/-! ## N1 -/
set_option maxRecDepth 100000
set_option maxHeartbeats 2000000
/-! N1: what the machine asks of a key of any depth: its hash, its ==, whether it can be seen -/
namespace NS
open PySem PySem.Spec PyProof.Rows L2
/-- at b stands a tuple that is the key k -/
def At (h : Heap) (k : NestedKey) (b : Addr) : Prop := NestedIs h k (.ref b) ∧ k.depth ≤ 8
theorem At.grow {h h' : Heap} {k : NestedKey} {b : Addr} (x : At h k b) (g : ∀ c o, h.get? c = some o → h'.get? c = some o) : At h' k b :=
  ⟨NestedIs.at (fun c o _ _ e _ => g c o e) k _ x.1, x.2⟩
theorem At.one {h : Heap} {k l : NestedKey} {b : Addr} (x : At h k b) (y : At h l b) : k = l := NestedIs.inj _ _ _ x.1 y.1
/-- only a set has changed -/
theorem At.past {h h' : Heap} {k : NestedKey} {a b : Addr} {o : Obj} {rs : Array (Int × Value)} {n : Nat} {t : SetTable} (x : At h k b) (ho : h.get? a = some o) (hd : o.data = .set rs n t) (sb : Heap.SameBut a h h') : At h' k b :=
  ⟨NestedIs.at (fun c u vs m e z => by
    have ne : c ≠ a := fun q => by
      rw [q, ho] at e
      cases e
      rw [hd] at z
      cases z
    exact (sb.2 c ne).trans e) k _ x.1, x.2⟩
section
variable {P : Program} {w : World} {s : Shared}
/-- no class stands in it -/
def NoCls (P : Program) (w : World) (n : Nat) (s : Shared) (v : Value) : Prop := ∀ (A : Around) (E : Value → Shared → Prop) (Q : Bool → Shared → Prop), Q false s → wpAny (model P w) A (ofAClassStatement n v) Q E s
theorem noCls_val {n : Nat} {v : Value} (h : ∀ a, v ≠ .ref a) : NoCls P w n s v := fun A E Q q => by
  cases v with
  | ref a => exact absurd rfl (h a)
  | _ => cases n <;> exact wpAny_pure q
theorem noCls_tup {n : Nat} {a : Addr} {o : Obj} {vs : Array Value} {m : Nat} (ho : s.heap.get? a = some o) (hc : o.cls = .type "tuple") (hd : o.data = .seq vs m) (each : ∀ v ∈ vs.toList, NoCls P w n s v) : NoCls P w (n + 1) s (.ref a) := fun A E Q q => by
  have isT : s.TypeIs (.ref a) "tuple" := ⟨o, ho, hc⟩
  have e : (("tuple" : String) == "tuple") = true := by decide
  unfold ofAClassStatement
  refine wpAny_bind (wpAny_typeOf isT ?_)
  dsimp only
  simp only [e, if_true, Bool.not_true, Bool.false_eq_true, if_false]
  try refine wpAny_bind (wpAny_pure ?_)
  try simp only [Bool.not_true, Bool.false_eq_true, if_false]
  show wpAny _ _ (seqItems? (.ref a) >>= _) _ _ s
  refine wpAny_bind (wpAny_seqItems ho hd ?_)
  dsimp only
  refine wpAny_bind ?_
  show wpAny _ _ (forIn vs _ _) _ _ s
  rw [← Array.forIn_toList]
  refine wpAny_forIn_list _ (fun left r s1 => s1 = s ∧ r.1 = none ∧ ∀ v ∈ left, NoCls P w n s v) _ (fun v left r s1 z => ?_) (fun r s1 z => ?_) _ _ ⟨rfl, rfl, each⟩
  · obtain ⟨rfl, hr, al⟩ := z
    refine wpAny_bind (al v List.mem_cons_self _ _ _ ?_)
    simp only [Bool.false_eq_true, if_false]
    exact wpAny_pure ⟨rfl, rfl, fun u hu => al u (List.mem_cons_of_mem _ hu)⟩
  · obtain ⟨r1, r2⟩ := r
    obtain ⟨rfl, hr, _⟩ := z
    simp only at hr
    subst hr
    exact wpAny_pure q
mutual
theorem noCls : ∀ (k : NestedKey) (v : Value) (n : Nat), NestedIs s.heap k v → k.depth ≤ n → NoCls P w n s v
  | .none, _, _, x, _ => by cases x; exact noCls_val fun _ z => by cases z
  | .num _, _, _, x, _ => by cases x <;> exact noCls_val fun _ z => by cases z
  | .text _, _, _, x, _ => by cases x; exact noCls_val fun _ z => by cases z
  | .tup ks, _, n, x, hn => by
    simp only [NestedKey.depth] at hn
    cases x with
    | tup h1 h2 h3 h4 =>
      match n, hn with
      | n + 1, hn => exact noCls_tup h1 h2 h3 (noClss ks _ n h4 (by omega))
theorem noClss : ∀ (ks : List NestedKey) (vs : List Value) (n : Nat), NestedAll s.heap ks vs → NestedKey.depthAll ks ≤ n → ∀ v ∈ vs, NoCls P w n s v
  | [], _, _, x, _, v, hv => by cases x; cases hv
  | k :: ks, _, n, x, hn, v, hv => by
    simp only [NestedKey.depthAll] at hn
    cases x with
    | cons x1 x2 =>
      rcases List.mem_cons.mp hv with e | hv
      · rw [e]
        exact noCls k _ n x1 (by omega)
      · exact noClss ks _ n x2 (by omega) v hv
end
/-- whether its hash hangs on its value alone: some answer -/
def ByVal (P : Program) (w : World) (n : Nat) (s : Shared) (v : Value) : Prop := ∀ (A : Around) (E : Value → Shared → Prop) (Q : Bool → Shared → Prop), (∀ b, Q b s) → wpAny (model P w) A (hashByValue n v) Q E s
theorem byVal_tup {n : Nat} {a : Addr} {o : Obj} {vs : Array Value} {m : Nat} (ho : s.heap.get? a = some o) (hc : o.cls = .type "tuple") (hd : o.data = .seq vs m) (each : ∀ v ∈ vs.toList, ByVal P w n s v) : ByVal P w (n + 1) s (.ref a) := fun A E Q q => by
  have isT : s.TypeIs (.ref a) "tuple" := ⟨o, ho, hc⟩
  unfold hashByValue
  refine wpAny_bind (wpAny_specialOf isT F.slot_tuple_hash.lookup ?_)
  show wpAny _ _ (seqItems? (.ref a) >>= _) _ _ s
  refine wpAny_bind (wpAny_seqItems ho hd ?_)
  refine wpAny_bind ?_
  show wpAny _ _ (forIn vs _ _) _ _ s
  rw [← Array.forIn_toList]
  refine wpAny_forIn_list _ (fun left r s1 => s1 = s ∧ r.1 = none ∧ ∀ v ∈ left, ByVal P w n s v) _ (fun v left r s1 z => ?_) (fun r s1 z => ?_) _ _ ⟨rfl, rfl, each⟩
  · obtain ⟨rfl, hr, al⟩ := z
    refine wpAny_bind (al v List.mem_cons_self _ _ _ fun b => ?_)
    cases b with
    | true =>
      simp only [Bool.not_true, Bool.false_eq_true, if_false]
      exact wpAny_pure ⟨rfl, rfl, fun u hu => al u (List.mem_cons_of_mem _ hu)⟩
    | false =>
      simp only [Bool.not_false, if_true]
      refine wpAny_pure ?_
      exact wpAny_pure (q false)
  · obtain ⟨r1, r2⟩ := r
    obtain ⟨rfl, hr, _⟩ := z
    simp only at hr
    subst hr
    exact wpAny_pure (q true)
mutual
theorem byVal : ∀ (k : NestedKey) (v : Value) (n : Nat), NestedIs s.heap k v → k.depth ≤ n → ByVal P w n s v
  | .none, _, n, x, _ => by cases x; exact fun A E Q q => by cases n <;> exact wpAny_pure (q _)
  | .num _, _, n, x, _ => by cases x <;> exact fun A E Q q => by cases n <;> exact wpAny_pure (q _)
  | .text _, _, n, x, _ => by cases x; exact fun A E Q q => by cases n <;> exact wpAny_pure (q _)
  | .tup ks, _, n, x, hn => by
    simp only [NestedKey.depth] at hn
    cases x with
    | tup h1 h2 h3 h4 =>
      match n, hn with
      | n + 1, hn => exact byVal_tup h1 h2 h3 (byVals ks _ n h4 (by omega))
theorem byVals : ∀ (ks : List NestedKey) (vs : List Value) (n : Nat), NestedAll s.heap ks vs → NestedKey.depthAll ks ≤ n → ∀ v ∈ vs, ByVal P w n s v
  | [], _, _, x, _, v, hv => by cases x; cases hv
  | k :: ks, _, n, x, hn, v, hv => by
    simp only [NestedKey.depthAll] at hn
    cases x with
    | cons x1 x2 =>
      rcases List.mem_cons.mp hv with e | hv
      · rw [e]
        exact byVal k _ n x1 (by omega)
      · exact byVals ks _ n x2 (by omega) v hv
end
variable {A : Around} {E : Value → Shared → Prop}
/-- looking for one key among others cannot be seen -/
theorem unseen {k : NestedKey} {b : Addr} (x : At s.heap k b) {ys : List Value} (al : ∀ y ∈ ys, ∃ l c, y = Value.ref c ∧ At s.heap l c) {Q : Bool → Shared → Prop} (q : Q false s) : wpAny (model P w) A (searchCouldBeSeen (.ref b) ys) Q E s := by
  unfold searchCouldBeSeen
  refine wpAny_bind ?_
  refine wpAny_forIn_list _ (fun left r s1 => s1 = s ∧ r.1 = none ∧ ∀ y ∈ left, ∃ l c, y = Value.ref c ∧ At s.heap l c) _ (fun y left r s1 z => ?_) (fun r s1 z => ?_) _ _ ⟨rfl, rfl, al⟩
  · obtain ⟨rfl, hr, more⟩ := z
    obtain ⟨l, c, rfl, y⟩ := more y List.mem_cons_self
    have further : ∀ u ∈ left, ∃ l c, u = Value.ref c ∧ At s1.heap l c := fun u hu => more u (List.mem_cons_of_mem _ hu)
    dsimp only
    by_cases same : (b == c || (carriedByValue (.ref b) && carriedByValue (.ref c))) = true
    · exact wp_if_pos same (wpAny_pure ⟨rfl, rfl, further⟩)
    · refine wp_if_neg same ?_
      refine wpAny_bind ((nestedKind P w).quiet x ?_)
      simp only [Bool.not_true, Bool.false_eq_true, if_false]
      refine wpAny_bind ((nestedKind P w).quiet y ?_)
      simp only [Bool.not_true, Bool.false_eq_true, if_false]
      refine wpAny_bind (noCls k _ 8 x.1 x.2 _ _ _ ?_)
      simp only [Bool.false_eq_true, if_false]
      refine wpAny_bind (noCls l _ 8 y.1 y.2 _ _ _ ?_)
      simp only [Bool.false_eq_true, if_false]
      exact wpAny_pure ⟨rfl, rfl, further⟩
  · obtain ⟨r1, r2⟩ := r
    obtain ⟨rfl, hr, _⟩ := z
    simp only at hr
    subst hr
    exact wpAny_pure q
end
end NS

/-! ## N2 -/
set_option maxRecDepth 100000
set_option maxHeartbeats 2000000
/-! N2: a set of keys of any depth: one is looked for, one is put in -/
namespace NS
open PySem PySem.Spec PyProof.Rows L2
abbrev Row : Type := Addr × NestedKey
abbrev hs (w : World) (M : List Row) : List Int := M.map fun m => m.2.hash w
abbrev inners (w : World) (M : List Row) : List (Int × Value) := M.map fun m => (m.2.hash w, Value.ref m.1)
/-- at a stands a set of these keys, in the order of its table -/
structure Holds (w : World) (h : Heap) (a : Addr) (M : List Row) (rs : Array (Int × Value)) (n : Nat) (t : SetTable) : Prop where
  obj : ∃ o, h.get? a = some o ∧ o.ExactSet ∧ o.data = .set rs n t
  is : rs.toList = inners w M
  tab : TabOk t (hs w M)
  nd : (M.map (·.2)).Nodup
  led : w.params.followText "set-order" = true ∨ t.led = true
  room : M.length * 5 < t.mask * 3
  few : M.length < 64
abbrev Keys (h : Heap) (M : List Row) : Prop := ∀ m ∈ M, At h m.2 m.1
theorem Keys.grow {h h' : Heap} {M : List Row} (x : Keys h M) (g : ∀ c o, h.get? c = some o → h'.get? c = some o) : Keys h' M := fun m hm => (x m hm).grow g
section
variable {P : Program} {w : World} {A : Around} {E : Value → Shared → Prop} {s : Shared} {a : Addr} {M : List Row} {rs : Array (Int × Value)} {n : Nat} {t : SetTable}
theorem size_of {rs : Array (Int × Value)} {M : List Row} (e : rs.toList = inners w M) : rs.size = M.length := by
  rw [← Array.length_toList, e, List.length_map]
theorem fits_of (e : rs.size = M.length) (T : TabOk t (hs w M)) (r : M.length ≤ t.mask) : t.fits rs.size = true := by
  have z := T.sz
  rw [List.length_map] at z
  unfold SetTable.fits SetTable.fill
  rw [T.dm, Bool.and_eq_true, beq_iff_eq, decide_eq_true_eq, e, ← z]
  exact ⟨rfl, by show t.place.size + 0 ≤ t.mask; omega⟩
theorem Holds.fits {h : Heap} (S : Holds w h a M rs n t) : t.fits rs.size = true := fits_of (size_of S.is) S.tab (by have := S.room; omega)
theorem at_of (e : rs.toList = inners w M) {i : Nat} {m : Row} (hm : M[i]? = some m) : rs[i]? = some (m.2.hash w, Value.ref m.1) := by
  have z : (inners w M)[i]? = some (m.2.hash w, Value.ref m.1) := by rw [List.getElem?_map, hm] <;> rfl
  rw [← e, Array.getElem?_toList] at z
  exact z
/-- the c-th state of a search for the hash g -/
abbrev stand (t : SetTable) (g : Int) (c : Nat) : SetTable.Probe := nth t.mask (runAt t.mask (SetTable.bits g % (t.mask + 1)) (SetTable.bits g)) c
theorem stand_add (t : SetTable) (g : Int) (c q : Nat) : nth t.mask (stand t g c) q = stand t g (c + q) := (nth_add t.mask c _ q).symm
theorem no_dummy (m : Nat) : ∀ (c : Nat) (p : SetTable.Probe), p.dummy = none → (nth m p c).dummy = none
  | 0, _, h => h
  | c + 1, p, h => no_dummy m c (adv m p) (by unfold adv; split <;> exact h)
/-- the keys that are sought stand further on -/
def Ahead (t : SetTable) (w : World) (M : List Row) (k : NestedKey) (c L : Nat) : Prop := ∀ (i : Nat) (m : Row), M[i]? = some m → m.2 = k → ∃ d, c ≤ d ∧ d < L ∧ t.place.toList[i]? = some (way t.mask (k.hash w) d)
theorem seek (S : Holds w s.heap a M rs n t) (kx : Keys s.heap M) {k : NestedKey} {b : Addr} (x : At s.heap k b) (hu : A.units + 8 < cLine) {L : Nat} (short : L < 10 * SetTable.turns t.mask)
    (free : way t.mask (k.hash w) L ∉ t.place.toList) (busy : ∀ d, d < L → way t.mask (k.hash w) d ∈ t.place.toList) {Q : SetFound → Shared → Prop} (yes : k ∈ M.map (·.2) → Q (.there none) s)
    (no : k ∉ M.map (·.2) → Q (.free (way t.mask (k.hash w) L) false) s) :
    ∀ (f c : Nat) (from' : Option SetTable.Probe), from'.getD (t.probeStart (k.hash w)) = stand t (k.hash w) c → c ≤ L → L - c < f → Ahead t w M k c L → wpAny (model P w) A (setSearchFrom a (.ref b) (k.hash w) true f from') Q E s := by
  obtain ⟨o, ho, hex, hd⟩ := S.obj
  have sz : t.place.toList.length = M.length := by
    have z := S.tab.sz
    rw [List.length_map] at z
    exact z
  have key : ∀ i, i < M.length → (rs[i]?.map (·.1)).getD 0 = ((M[i]?.map fun m => m.2.hash w).getD 0) := fun i hi => by
    rw [at_of S.is (List.getElem?_eq_getElem hi), List.getElem?_eq_getElem hi] <;> rfl
  intro f
  induction f with
  | zero => intro c _ _ _ z; exact absurd z (Nat.not_lt_zero _)
  | succ f ih =>
    intro c from' hst hc hf ahead
    rw [setSearchFrom_succ]
    refine wpAny_bind (wpAny_setState_of ho hd S.fits ?_)
    dsimp only
    refine wp_if_neg (by unfold SetTable.gaveWay; rw [mask_odd S.tab.mok]; decide) ?_
    try refine wpAny_bind (wpAny_pure ?_)
    rw [hst]
    have spec := go_spec t S.tab.ris S.tab.dm (fun i => (rs[i]?.map (·.1)).getD 0) (k.hash w) (10 * SetTable.turns t.mask) (L - c) (stand t (k.hash w) c) (no_dummy _ c _ rfl) (by omega)
      (fun q hq => by rw [stand_add]; exact busy (c + q) (by omega)) (by rw [stand_add, show c + (L - c) = L by omega]; exact free)
    rcases spec with ⟨q, i, hq, hi, hh, earlier, found⟩ | ⟨nowhere, found⟩
    · rw [stand_add] at hi
      have hil : i < M.length := by rw [← sz]; exact (List.getElem?_eq_some_iff.mp hi).1
      obtain ⟨m, hm⟩ : ∃ m, M[i]? = some m := ⟨_, List.getElem?_eq_getElem hil⟩
      have mM : m ∈ M := List.mem_of_getElem? hm
      have live : t.slot (way t.mask (k.hash w) (c + q)) = .live i := slot_live S.tab.ris hi
      rw [stand_add, stand_add] at found
      rw [show t.probe (fun i => (rs[i]?.map (·.1)).getD 0) (k.hash w) (stand t (k.hash w) c) = _ from found]
      dsimp only
      have rest : wpAny (model P w) A (searchRest a (.ref b) (k.hash w) true f rs t (way t.mask (k.hash w) (c + q)) i (stand t (k.hash w) (c + (q + 1)))) Q E s := by
        unfold searchRest
        rw [at_of S.is hm]
        dsimp only
        refine wpAny_bind (wpAny_holding ((nestedKind P w).eqBool hu (kx m mM) x ?_))
        refine wpAny_bind (wpAny_setState_of ho hd S.fits ?_)
        dsimp only
        by_cases same : m.2 = k
        · exact wp_if_pos (by simp [same]) (wpAny_pure (yes (List.mem_map.mpr ⟨m, mM, same⟩)))
        · refine wp_if_neg (by simp [same]) ?_
          try refine wpAny_bind (wpAny_pure ?_)
          rw [sameMem]
          dsimp only
          simp only [if_true, live, at_of S.is hm]
          refine wpAny_bind (wpAny_isSame_ref_self (wpAny_bind (wpAny_pure ?_)))
          simp only [if_true]
          refine wp_if_neg (by simp [same]) (ih (c + (q + 1)) _ rfl (by omega) (by omega) fun j m' hj ej => ?_)
          obtain ⟨d, d1, d2, d3⟩ := ahead j m' hj ej
          refine ⟨d, ?_, d2, d3⟩
          have hjl : j < M.length := (List.getElem?_eq_some_iff.mp hj).1
          rcases Nat.lt_trichotomy d (c + q) with z | z | z
          · exfalso
            refine earlier (d - c) j (by omega) (by rw [stand_add, show c + (d - c) = d by omega]; exact d3) ?_
            rw [key j hjl, hj]
            show m'.2.hash w = k.hash w
            rw [ej]
          · exfalso
            rw [z] at d3
            have other := slot_live S.tab.ris d3
            rw [live] at other
            injection other with other
            rw [← other, hm] at hj
            cases hj
            exact same ej
          · omega
      by_cases hl : t.led = true
      · refine wp_if_neg (by simp [hl]) ?_
        try refine wpAny_bind (wpAny_pure ?_)
        exact rest
      · refine wp_if_pos (by simp [hl]) (wpAny_bind (unseen x (fun y hy => ?_) ?_))
        · obtain ⟨e, he, ee⟩ := List.mem_map.mp hy
          have he1 : e ∈ rs ∧ e.1 = k.hash w := by simpa using he
          have he2 : e ∈ rs.toList := by simpa using he1.1
          rw [S.is] at he2
          obtain ⟨m', hm', em⟩ := List.mem_map.mp he2
          exact ⟨m'.2, m'.1, by rw [← ee, ← em], kx m' hm'⟩
        · refine wp_if_neg (by decide) ?_
          try refine wpAny_bind (wpAny_pure ?_)
          exact rest
    · rw [stand_add, show c + (L - c) = L by omega] at found
      rw [show t.probe (fun i => (rs[i]?.map (·.1)).getD 0) (k.hash w) (stand t (k.hash w) c) = _ from found]
      dsimp only
      refine wpAny_pure (no fun z => ?_)
      obtain ⟨m, mM, em⟩ := List.mem_map.mp z
      obtain ⟨j, hjl, ej⟩ := List.getElem_of_mem mM
      have hj : M[j]? = some m := by rw [List.getElem?_eq_getElem hjl, ej]
      obtain ⟨d, d1, d2, d3⟩ := ahead j m hj em
      refine nowhere (d - c) j (by omega) (by rw [stand_add, show c + (d - c) = d by omega]; exact d3) ?_
      rw [key j hjl, hj]
      show m.2.hash w = k.hash w
      rw [em]
/-- the search of an adding -/
theorem seek_all (S : Holds w s.heap a M rs n t) (kx : Keys s.heap M) {k : NestedKey} {b : Addr} (x : At s.heap k b) (hu : A.units + 8 < cLine) {Q : SetFound → Shared → Prop} (yes : k ∈ M.map (·.2) → Q (.there none) s)
    (no : ∀ L, k ∉ M.map (·.2) → way t.mask (k.hash w) L ∉ t.place.toList → (∀ d, d < L → way t.mask (k.hash w) d ∈ t.place.toList) → Q (.free (way t.mask (k.hash w) L) false) s) :
    wpAny (model P w) A (setSearch a (.ref b) (k.hash w) true) Q E s := by
  have few := S.room
  obtain ⟨L, l1, l2, l3⟩ := S.tab.first (by rw [List.length_map]; omega) (k.hash w)
  have small : L < 2000 := by
    unfold SetTable.turns at l1
    rcases S.tab.mok with e | e | e <;> omega
  unfold setSearch
  refine seek S kx x hu l1 l2 l3 yes (fun z => no L z l2 l3) 100000 0 none rfl (Nat.zero_le _) (by omega) fun i m hm e => ?_
  have hh : (hs w M)[i]? = some (k.hash w) := by rw [List.getElem?_map, hm, ← e] <;> rfl
  have z := S.tab.sz
  rw [List.length_map] at z
  have hil : i < t.place.toList.length := by
    rw [Array.length_toList, z]
    exact (List.getElem?_eq_some_iff.mp hm).1
  obtain ⟨d, d1, d2⟩ := S.tab.before l2 hh (List.getElem?_eq_getElem hil)
  exact ⟨d, Nat.zero_le _, d1, by rw [List.getElem?_eq_getElem hil, d2]⟩
end
end NS

/-! ## N3 -/
set_option maxRecDepth 100000
set_option maxHeartbeats 2000000
/-! N3: the table laid anew; one key put in -/
namespace NS
open PySem PySem.Spec PyProof.Rows L2
/-! ### lists read in another order -/
theorem pick_map {α β : Type} (f : α → β) (l : List α) : ∀ js : List Nat, (js.filterMap fun j => (l.map f)[j]?) = (js.filterMap fun j => l[j]?).map f
  | [] => rfl
  | j :: js => by
    have ih := pick_map f l js
    cases e : l[j]? with
    | none =>
      rw [List.filterMap_cons_none (by rw [List.getElem?_map, e] <;> rfl), List.filterMap_cons_none e, ih]
    | some x =>
      rw [List.filterMap_cons_some (b := f x) (by rw [List.getElem?_map, e] <;> rfl), List.filterMap_cons_some e, List.map_cons, ih]
theorem pick_all {α : Type} : ∀ l : List α, ((List.range l.length).filterMap fun j => l[j]?) = l := by
  intro l
  have up : ∀ m, m ≤ l.length → ((List.range m).filterMap fun j => l[j]?) = l.take m := by
    intro m
    induction m with
    | zero => intro _; rfl
    | succ m ih =>
      intro hm
      have hl := List.getElem?_eq_getElem (l := l) hm
      rw [List.range_succ, List.filterMap_append, ih (Nat.le_of_succ_le hm), List.take_succ, List.filterMap_cons_some hl, hl] <;> rfl
  rw [up _ (Nat.le_refl _), List.take_length]
theorem pick_perm {α : Type} {l : List α} {js : List Nat} (p : js.Perm (List.range l.length)) : (js.filterMap fun j => l[j]?).Perm l := by
  have z := p.filterMap fun j => l[j]?
  rw [pick_all] at z
  exact z
theorem pick_getD {α : Type} (d : α) (l : List α) : ∀ js : List Nat, (∀ j ∈ js, j < l.length) → (js.filterMap fun j => l[j]?) = js.map fun j => l.getD j d
  | [], _ => rfl
  | j :: js, h => by
    have hj := List.getElem?_eq_getElem (l := l) (h j List.mem_cons_self)
    rw [List.filterMap_cons_some hj, List.map_cons, pick_getD d l js fun i hi => h i (List.mem_cons_of_mem _ hi), List.getD_eq_getElem?_getD, hj] <;> rfl
section
variable {P : Program} {w : World} {A : Around} {E : Value → Shared → Prop} {s : Shared} {a : Addr} {M : List Row} {rs : Array (Int × Value)} {n : Nat} {t : SetTable}
theorem keep_tab {g : List Int} (T : TabOk t g) (b : Bool) : TabOk { t with plain := b } g := ⟨T.ris, T.dm, T.sz, T.mok, T.bd, T.reach⟩
theorem again_laid {o : Obj} (ho : s.heap.get? a = some o) (hex : o.ExactSet) (hd : o.data = .set rs n t) (is : rs.toList = inners w M) (T : TabOk t (hs w M)) (fit : M.length ≤ t.mask) (nd : (M.map (·.2)).Nodup)
    (ld : w.params.followText "set-order" = true ∨ t.led = true) (few : M.length < 64) {wanted m : Nat} (e1 : SetTable.sizeAbove wanted - 1 = m) (e2 : MaskOk m) (e3 : SetTable.sizeAbove wanted ≤ 128) (room : M.length * 5 < m * 3) {Q : Unit → Shared → Prop}
    (q : ∀ h' M' rs' n' t', Heap.SameBut a s.heap h' → Holds w h' a M' rs' n' t' → M'.Perm M → Q () { s with heap := h' }) : wpAny (model P w) A (setRelay a wanted) Q E s := by
  have sz := size_of is
  have msz : (rs.map (·.1)).size = M.length := by rw [Array.size_map, sz]
  obtain ⟨t', order, r1, r2, r3, r4, r5, r6, r7⟩ := relaid_ok t (hs := rs.map (·.1)) (wanted := wanted) e1 e2 (by rw [msz]; omega)
  rw [msz] at r2
  have small : ∀ j ∈ order.toList, j < M.length := fun j hj => List.mem_range.mp (r2.mem_iff.mp hj)
  -- the rows in their new order
  have new : (order.filterMap (rs[·]?)).toList = inners w (order.toList.filterMap fun j => M[j]?) := by
    have z : (order.filterMap (rs[·]?)).toList = order.toList.filterMap fun j => rs[j]? := by first | exact Array.toList_filterMap | simp
    rw [z]
    have z2 : (order.toList.filterMap fun j => rs[j]?) = order.toList.filterMap fun j => (inners w M)[j]? := by
      congr 1
      funext j
      rw [← is, Array.getElem?_toList]
    rw [z2]
    exact pick_map _ M _
  have pm : (order.toList.filterMap fun j => M[j]?).Perm M := pick_perm r2
  have hh : (order.toList.map fun j => (rs.map (·.1)).getD j 0) = hs w (order.toList.filterMap fun j => M[j]?) := by
    have z : (rs.map (·.1)).toList = hs w M := by
      rw [Array.toList_map, is, List.map_map] <;> rfl
    have z2 : (order.toList.map fun j => (rs.map (·.1)).getD j 0) = order.toList.map fun j => (hs w M).getD j 0 := by
      congr 1
      funext j
      rw [← z]
      simp [Array.getD_eq_getD_getElem?, List.getD_eq_getElem?_getD]
    rw [z2, ← pick_getD 0 (hs w M) order.toList fun j hj => by rw [List.length_map]; exact small j hj]
    exact pick_map _ M _
  rw [hh] at r3
  generalize (order.toList.filterMap fun j => M[j]?) = M' at new pm r3
  have len := pm.length_eq
  have sz2 : (order.filterMap (rs[·]?)).size = rs.size := by rw [size_of new, len, sz]
  rw [setRelay_eq]
  refine wpAny_bind (wpAny_setState_of ho hd (fits_of sz T fit) ?_)
  dsimp only
  refine wp_if_neg (by rw [sizeLine_eq]; omega) ?_
  try refine wpAny_bind (wpAny_pure ?_)
  rw [r1]
  dsimp only
  refine wpAny_bind ?_
  refine wp_if_neg (by rw [sz2]; simp) ?_
  try refine wpAny_bind (wpAny_pure ?_)
  refine wpAny_pure ?_
  dsimp only
  refine wpAny_storeSet_of ho hd ?_ (by rw [sz2, sz, sizeLine_eq]; omega)
  refine q _ M' (order.filterMap (rs[·]?)) (n + 1) t' (Heap.SameBut.update ..) ⟨⟨_, store_at ho hd, hex, rfl⟩, new, r3, (pm.map (·.2)).nodup_iff.mpr nd, ?_, by rw [len, r4]; exact room, by rw [len]; exact few⟩ pm
  rw [r5]
  exact ld
/-- one more -/
theorem put_in (S : Holds w s.heap a M rs n t) (kx : Keys s.heap M) {k : NestedKey} {b : Addr} (x : At s.heap k b) (hu : A.units + 8 < cLine) (few : M.length + 1 < 64) {Q : Bool → Shared → Prop}
    (q : ∀ r h' M' rs' n' t', Heap.SameBut a s.heap h' → Holds w h' a M' rs' n' t' → (k ∈ M.map (·.2) → M' = M) → (k ∉ M.map (·.2) → M'.Perm ((b, k) :: M)) → Q r { s with heap := h' }) :
    wpAny (model P w) A (setAddHashed a (.ref b) (k.hash w)) Q E s := by
  obtain ⟨o, ho, hex, hd⟩ := S.obj
  have sz := size_of S.is
  have room := S.room
  unfold setAddHashed
  refine wpAny_holding ?_
  rw [show (100000 : Nat) = 99999 + 1 from rfl, setAddHashedIn_succ]
  refine wpAny_bind (wpAny_setState_of ho hd S.fits ?_)
  dsimp only
  refine wp_if_neg (by simp [byScan, Value.scannable]) ?_
  try refine wpAny_bind (wpAny_pure ?_)
  refine wpAny_bind (seek_all S kx x hu (fun z => ?_) fun L z l2 l3 => ?_)
  · dsimp only
    exact wpAny_pure (q false s.heap M rs n t (Heap.SameBut.refl a s.heap) S (fun _ => rfl) fun y => absurd z y)
  dsimp only
  refine wpAny_bind (wpAny_setState_of ho hd S.fits ?_)
  dsimp only
  obtain ⟨p1, p2, p3, p4, p5, _, _, _, p9⟩ := S.tab.put l2 l3
  generalize SetTable.below t.place (way t.mask (k.hash w) L) = j at p1 p2 p3
  generalize t.put (way t.mask (k.hash w) L) = pt at p1 p3 p4 p5 p9 ⊢
  obtain ⟨t1, j1⟩ := pt
  dsimp only at p1 p3 p4 p5 p9 ⊢
  subst p1
  rw [List.length_map] at p2 p9
  -- the rows with the new one
  have pm : (M.take j1 ++ (b, k) :: M.drop j1).Perm ((b, k) :: M) := put_perm M j1 (b, k)
  have is1 : (SetTable.insertAt rs j1 (k.hash w, Value.ref b)).toList = inners w (M.take j1 ++ (b, k) :: M.drop j1) := by
    rw [SetTable.toList_insertAt, S.is]
    simp only [List.map_append, List.map_cons, List.map_take, List.map_drop]
  have T1 : TabOk t1 (hs w (M.take j1 ++ (b, k) :: M.drop j1)) := by
    have e : hs w (M.take j1 ++ (b, k) :: M.drop j1) = (hs w M).take j1 ++ k.hash w :: (hs w M).drop j1 := by simp only [List.map_append, List.map_cons, List.map_take, List.map_drop]
    rw [e]
    exact p3
  have nd1 : ((M.take j1 ++ (b, k) :: M.drop j1).map (·.2)).Nodup := (pm.map (·.2)).nodup_iff.mpr (List.nodup_cons.mpr ⟨z, S.nd⟩)
  have len1 : (M.take j1 ++ (b, k) :: M.drop j1).length = M.length + 1 := pm.length_eq
  generalize SetTable.insertAt rs j1 (k.hash w, Value.ref b) = rs1 at is1 ⊢
  generalize M.take j1 ++ (b, k) :: M.drop j1 = M1 at pm is1 T1 nd1 len1
  have sz1 : rs1.size = M.length + 1 := (size_of is1).trans len1
  -- whatever is said of its hash
  have go : ∀ (r : Bool) (t2 : SetTable), (t2 = t1 ∨ t2 = { t1 with plain := false }) → wpAny (model P w) A (do
      storeSet a rs1 t2
      if (!false && t2.tooFull) = true then do
          setRelay a (SetTable.grown (rs.size + 1))
          pure true
        else pure true) Q E s := by
    intro r t2 ht2
    have T2 : TabOk t2 (hs w M1) := by
      rcases ht2 with e | e <;> subst e
      · exact T1
      · exact keep_tab T1 false
    have f2 : t2.fill = M.length + 1 := by rcases ht2 with e | e <;> subst e <;> exact p9
    have m2 : t2.mask = t.mask := by rcases ht2 with e | e <;> subst e <;> exact p4
    have ld2 : w.params.followText "set-order" = true ∨ t2.led = true := by
      have z2 : t2.led = t.led := by rcases ht2 with e | e <;> subst e <;> exact p5
      rw [z2]
      exact S.led
    refine wpAny_bind (wpAny_storeSet_of ho hd ?_ (by rw [sz1, sizeLine_eq]; omega))
    have sb : Heap.SameBut a s.heap (s.heap.update a (Obj.putSet rs1 t2)) := Heap.SameBut.update ..
    have ho1 := store_at (es' := rs1) (t' := t2) ho hd
    generalize s.heap.update a (Obj.putSet rs1 t2) = h1 at sb ho1 ⊢
    by_cases full : t2.tooFull = true
    · refine wp_if_pos (by simp [full]) ?_
      rw [sz]
      have much : (M.length + 1) * 5 ≥ t.mask * 3 := by
        have z3 := full
        unfold SetTable.tooFull at z3
        rw [decide_eq_true_eq, f2, m2] at z3
        exact z3
      have step : ∀ m, SetTable.sizeAbove (SetTable.grown (M.length + 1)) - 1 = m → MaskOk m → SetTable.sizeAbove (SetTable.grown (M.length + 1)) ≤ 128 → (M.length + 1) * 5 < m * 3 → M.length + 1 ≤ t.mask →
          wpAny (model P w) A (do
            setRelay a (SetTable.grown (M.length + 1))
            pure true) Q E { s with heap := h1 } := fun m c1 c2 c3 c4 c5 => by
        refine wpAny_bind (again_laid (s := { s with heap := h1 }) ho1 hex rfl is1 T2 (by rw [len1, m2]; exact c5) nd1 ld2 (by rw [len1]; exact few) c1 c2 c3 (by rw [len1]; exact c4) fun h2 M2 rs2 n2 t3 sb2 S2 pm2 => ?_)
        exact wpAny_pure (q true h2 M2 rs2 n2 t3 (sb.trans sb2) S2 (fun y => absurd y z) fun _ => pm2.trans pm)
      rcases S.tab.mok with e | e | e
      · have el : M.length = 4 := by rw [e] at much room; omega
        exact step 31 (by rw [el, size_20]) (.inr (.inl rfl)) (by rw [el, size_20]; decide) (by omega) (by omega)
      · have el : M.length = 18 := by rw [e] at much room; omega
        exact step 127 (by rw [el, size_76]) (.inr (.inr rfl)) (by rw [el, size_76]; decide) (by omega) (by omega)
      · exfalso
        rw [e] at much
        omega
    · refine wp_if_neg (by simp [full]) ?_
      refine wpAny_pure (q true h1 M1 rs1 (n + 1) t2 sb ⟨⟨_, ho1, hex, rfl⟩, is1, T2, nd1, ld2, ?_, by rw [len1]; exact few⟩ (fun y => absurd y z) fun _ => pm)
      have z3 := full
      unfold SetTable.tooFull at z3
      rw [decide_eq_true_eq, f2] at z3
      rw [len1]
      omega
  by_cases pl : t1.plain = true
  · first
      | refine wp_if_pos pl (wpAny_bind (byVal k _ 8 x.1 x.2 _ _ _ fun r => ?_))
      | (refine wpAny_bind ?_; refine wp_if_pos pl ?_; refine byVal k _ 8 x.1 x.2 _ _ _ fun r => ?_)
    cases r with
    | true => exact go true t1 (.inl rfl)
    | false => exact go false _ (.inr rfl)
  · first
      | refine wp_if_neg pl (wpAny_bind (wpAny_pure ?_))
      | (refine wpAny_bind ?_; refine wp_if_neg pl ?_; refine wpAny_pure ?_)
    exact go true t1 (.inl rfl)
end
end NS

/-! ## N4 -/
set_option maxRecDepth 100000
set_option maxHeartbeats 3200000
/-! N4: set(xs) of a list of keys -/
namespace NS
open PySem PySem.Spec PyProof.Rows L2
/-- a set just made -/
abbrev bare (w : World) : Obj := { cls := .type "set", dict := none, data := .set #[] 0 (.fresh 0 0 (!w.params.followText "set-order")) }
theorem holds_bare {w : World} {h : Heap} {a : Addr} (ho : h.get? a = some (bare w)) : Holds w h a [] #[] 0 (.fresh 0 0 (!w.params.followText "set-order")) := by
  refine ⟨⟨_, ho, ⟨rfl, rfl, rfl⟩, rfl⟩, rfl, ⟨.nil, rfl, rfl, .inl rfl, fun j hj => (by cases hj), fun i g j hi => (by simp at hi)⟩, .nil, ?_, by show 0 * 5 < 7 * 3; decide, by show 0 < 64; decide⟩
  cases z : w.params.followText "set-order" with
  | true => exact .inl rfl
  | false => exact .inr rfl
theorem Holds.grow {w : World} {h h' : Heap} {a : Addr} {M : List Row} {rs : Array (Int × Value)} {n : Nat} {t : SetTable} (S : Holds w h a M rs n t) (g : ∀ o, h.get? a = some o → h'.get? a = some o) : Holds w h' a M rs n t := by
  obtain ⟨o, ho, r⟩ := S.obj
  exact ⟨⟨o, g o ho, r⟩, S.is, S.tab, S.nd, S.led, S.room, S.few⟩
/-- what a set has of the first i rows of a list -/
structure Took (N : List Row) (i : Nat) (M : List Row) : Prop where
  sub : ∀ m ∈ M, m ∈ N
  all : ∀ m ∈ N.take i, m.2 ∈ M.map (·.2)
  few : M.length ≤ i
theorem Took.none (N : List Row) : Took N 0 [] := ⟨fun m z => (by cases z), fun m z => (by simp at z), Nat.le_refl _⟩
theorem Took.more {N M M' : List Row} {i : Nat} {m : Row} (T : Took N i M) (hm : N[i]? = some m) (c1 : m.2 ∈ M.map (·.2) → M' = M) (c2 : m.2 ∉ M.map (·.2) → M'.Perm (m :: M)) : Took N (i + 1) M' := by
  have tk : N.take (i + 1) = N.take i ++ [m] := by rw [List.take_succ, hm] <;> rfl
  by_cases z : m.2 ∈ M.map (·.2)
  · rw [c1 z]
    refine ⟨T.sub, fun u hu => ?_, Nat.le_succ_of_le T.few⟩
    rw [tk] at hu
    rcases List.mem_append.mp hu with e | e
    · exact T.all u e
    · rw [List.mem_singleton.mp e]
      exact z
  · have pm := c2 z
    refine ⟨fun u hu => ?_, fun u hu => ?_, by rw [pm.length_eq, List.length_cons]; exact Nat.succ_le_succ T.few⟩
    · rcases List.mem_cons.mp (pm.mem_iff.mp hu) with e | e
      · rw [e]
        exact List.mem_of_getElem? hm
      · exact T.sub u e
    · refine (pm.map (·.2)).mem_iff.mpr ?_
      rw [tk] at hu
      rcases List.mem_append.mp hu with e | e
      · exact List.mem_cons_of_mem _ (T.all u e)
      · rw [List.mem_singleton.mp e]
        exact List.mem_cons_self
section
variable {P : Program} {w : World} {A : Around} {E : Value → Shared → Prop} {s : Shared}
/-- the loop of an update: h0 the heap in which the keys stand -/
theorem loop_puts {I : Addr} {fp wr : List Addr} {G : Array GenState → Array GenState → Prop} {n : Nat} {Pv : Nat → Value → Prop} {St : Nat → Shared → Prop} {R : Result → Shared → Prop} (W : WalksS P w A.in1 I fp wr G n Pv St) {a : Addr} (off : a ∉ fp)
    {N : List Row} (hn : n = N.length) (few : N.length < 64) (val : ∀ i v, Pv i v → ∃ m, N[i]? = some m ∧ v = .ref m.1) {h0 : Heap} (kn : Keys h0 N) (new : h0.get? a = none) (new2 : ∀ b ∈ wr, h0.get? b = none) (hu : A.in1.units + 8 < cLine) :
    ∀ (left i : Nat) (s : Shared), n - i = left → i ≤ n → St i s → (∀ b o, h0.get? b = some o → s.heap.get? b = some o) → (∃ M rs c t, Holds w s.heap a M rs c t ∧ Took N i M) →
      (∀ s' M rs c t, Moved (a :: wr) G s s' → Holds w s'.heap a M rs c t → Took N n M → (∀ b o, h0.get? b = some o → s'.heap.get? b = some o) → R (.ok (.ret .none)) s') →
      codeAny (model P w) A (.builtin "set.update.loop" ⟨[.ref a, .ref I], []⟩) R s := by
  have off2 : a ∉ wr := fun z => off (W.sub _ z)
  have wider : ∀ b ∈ wr, b ∈ a :: wr := fun b z => List.mem_cons_of_mem _ z
  have old : ∀ {s1 s2 : Shared}, Moved wr G s1 s2 → (∀ b o, h0.get? b = some o → s1.heap.get? b = some o) → ∀ b o, h0.get? b = some o → s2.heap.get? b = some o := fun mv g b o e =>
    mv.heap b o (fun z => by rw [new2 b z] at e; cases e) (g b o e)
  intro left
  induction left with
  | zero =>
    rintro i s e le st g ⟨M, rs, c, t, S, T⟩ fin
    obtain rfl : i = n := by omega
    refine codeAny_builtin F.entry_set_update_loop ?_
    rw [Around.under_plainId F.plain_set_update_loop _]
    show wpAny _ A.in1 (pyNext (.ref I) >>= _) _ _ s
    refine wpAny_bind (W.done s _ _ st fun s' mv => ?_)
    show wpAny _ A.in1 (ret Value.none) _ _ s'
    exact wpAny_pure (fin s' M rs c t (mv.mono wider) (S.grow fun o z => mv.heap a o off2 z) T (old mv g))
  | succ left ih =>
    rintro i s e le st g ⟨M, rs, c, t, S, T⟩ fin
    have lt : i < n := by omega
    refine codeAny_builtin F.entry_set_update_loop ?_
    rw [Around.under_plainId F.plain_set_update_loop _]
    show wpAny _ A.in1 (pyNext (.ref I) >>= _) _ _ s
    refine wpAny_bind (W.item i s _ _ lt st fun v s' pv st' mv => ?_)
    obtain ⟨m, hm, rfl⟩ := val i v pv
    have g' := old mv g
    have S' : Holds w s'.heap a M rs c t := S.grow fun o z => mv.heap a o off2 z
    have x : At s'.heap m.2 m.1 := (kn m (List.mem_of_getElem? hm)).grow g'
    show wpAny _ A.in1 (holding [Value.ref m.1] (setAdd a (.ref m.1)) >>= _) _ _ s'
    refine wpAny_bind (wpAny_holding ?_)
    unfold setAdd
    refine wpAny_holding (wpAny_bind ((nestedKind P w).pyHash hu x ?_))
    refine put_in (s := { s' with toks := s'.toks + m.2.draws }) S' (fun u hu' => (kn u (T.sub u hu')).grow g') x hu (by have := T.few; omega) fun r h' M' rs' c' t' sb S2 c1 c2 => ?_
    have g2 : ∀ b o, h0.get? b = some o → h'.get? b = some o := fun b o z => (sb.2 b (fun q => by rw [q, new] at z; cases z)).trans (g' b o z)
    refine wpAny_pure ⟨plainId_quiet F.plain_set_update_loop _, ih (i + 1) _ (by omega) lt (W.frame _ s' _ _ st' (Nat.le_add_right _ _) fun b hb o z => ?_) g2 ⟨M', rs', c', t', S2, T.more hm c1 c2⟩ fun s'' M2 rs2 c3 t2 mv2 S3 T3 g3 => ?_⟩
    · exact (sb.2 b (fun q : b = a => off (q ▸ hb))).trans z
    · refine fin s'' M2 rs2 c3 t2 (Moved.trans W.gtrans ((mv.mono wider).then_heap (Nat.le_add_right _ _) fun b o hb z => ?_) mv2) S3 T3 g3
      exact (sb.2 b (fun q : b = a => hb (q ▸ List.mem_cons_self))).trans z
/-- set(xs): what is left is the loop over a fresh set and a fresh iterator -/
theorem set_of_list {l : Addr} {items : Array Value} {Q : Value → Shared → Prop} {Post : Heap → Nat → Prop} (hl : s.heap.IsList l items)
    (loop : ∀ R : Result → Shared → Prop, (∀ h' tk, Post h' tk → R (.ok (.ret .none)) { s with heap := h', toks := tk }) →
      codeAny (model P w) A.in1.in1 (.builtin "set.update.loop" ⟨[.ref s.heap.objs.size, .ref (s.heap.objs.size + 1)], []⟩) R { s with heap := (s.heap.push (bare w)).push { cls := .type "list_iterator", data := .fields #[.ref l, .int 0 0] } })
    (h : ∀ h' tk, Post h' tk → Q (.ref s.heap.objs.size) { s with heap := h', toks := tk }) : wpAny (model P w) A (call (.type "set") [.ref l]) Q E s := by
  obtain ⟨c, tl, hmro⟩ := F.called_set.mro
  have hmade := F.called_set.made
  have hsub := F.called_set.sub
  refine wpAny_call (codeAny_of_tree ?_)
  show wpAny _ _ (callAny (.type "set") _) _ _ _
  refine wpAny_pure ⟨Code.quiet_builtin _ (by decide +kernel), codeAny_builtin F.entry_type_call ?_⟩
  rw [Around.under_plain (weight_type_call_type "set" [.ref l] []) rfl]
  have h1 := F.called_set.notType
  have h2 := F.called_set.canCreate
  have hct := F.typeCall_set_1 (.ref l)
  repeat (any_goals (first | assumption | wp_step))
  refine codeAny_mono (code_set_led1 (.ref l) (E := E) (Q₁ := fun v s1 => v = .ref s.heap.objs.size ∧ s1 = { s with heap := s.heap.push (bare w) }) ⟨rfl, rfl⟩) fun r s1 hr => ?_
  rcases r with e | (_ | _ | _ | v)
  · exact hr
  · exact hr.elim
  · exact hr.elim
  · exact hr.elim
  obtain ⟨rfl, rfl⟩ := hr
  have isS : (s.heap.push (bare w)).get? s.heap.objs.size = some (bare w) := Heap.get?_push_size _ rfl
  have tyS : Shared.TypeIs { s with heap := s.heap.push (bare w) } (.ref s.heap.objs.size) "set" := ⟨_, isS, rfl⟩
  have hli := F.called_set.init.lookup
  have hbi := F.called_set.init.bind (.ref s.heap.objs.size)
  repeat (any_goals (first | assumption | wp_step))
  refine codeAny_mono (codeAny_call_builtin (R := wants (fun v s2 => v = .none ∧ ∃ h' tk, s2 = { s with heap := h', toks := tk } ∧ Post h' tk) E) F.called_set.init.plain F.entry_set_init (check_set_init_1 tyS ?_)) fun r2 s2 hr2 => ?_
  · obtain ⟨⟨lc, ld, lo, ls⟩, hol, hcl, nl, hdl⟩ := hl
    dsimp only at hcl hdl
    subst hcl hdl
    have hol' : (s.heap.push (bare w)).get? l = some { cls := .type "list", dict := ld, data := .seq items nl, slots := ls } := Heap.get?_push_of_some _ hol
    have hl1 : (s.heap.push (bare w)).IsList l items := ⟨_, hol', rfl, nl, rfl⟩
    have hsls := F.sub_list_set
    have hslf := F.sub_list_frozenset
    have hne : (Value.type "list" == Value.type "dict") = false := by decide
    unfold Builtin.«set.__init__» noKeywords Builtin.Frozenset.updateFrom
    generalize hPI : pyIter = PI
    wp_walk
    subst hPI
    refine wpAny_pyIter_list hl1 (wpAny_bind (wpAny_runValue ?_))
    have hz : (s.heap.push (bare w)).objs.size = s.heap.objs.size + 1 := Heap.size_push ..
    show codeAny _ _ (.builtin "set.update.loop" ⟨[.ref s.heap.objs.size, .ref (s.heap.push (bare w)).objs.size], []⟩) _ _
    rw [hz]
    refine loop _ fun h' tk po => ?_
    show wpAny _ _ _ _ _ _
    refine wpAny_pure ?_
    show wpAny _ _ (ret Value.none) _ _ _
    exact wpAny_pure ⟨rfl, h', tk, rfl, po⟩
  · rcases r2 with e | (_ | _ | _ | v)
    · exact hr2
    · exact hr2.elim
    · exact hr2.elim
    · exact hr2.elim
    obtain ⟨rfl, h', tk, rfl, po⟩ := hr2
    repeat (any_goals (first | assumption | wp_step))
    exact h _ _ po
/-- set(xs) of keys -/
theorem set_keys {l : Addr} {items : Array Value} {N : List Row} {Q : Value → Shared → Prop} (hh : A.handled = none) (hl : s.heap.IsList l items) (hit : items.toList = N.map fun m => Value.ref m.1) (kn : Keys s.heap N) (few : N.length < 64) (hu : A.units + 16 < cLine)
    (h : ∀ h' tk M rs c t, Holds w h' s.heap.objs.size M rs c t → Took N N.length M → (∀ b o, s.heap.get? b = some o → h'.get? b = some o) → Q (.ref s.heap.objs.size) { s with heap := h', toks := tk }) : wpAny (model P w) A (call (.type "set") [.ref l]) Q E s := by
  have size : items.size = N.length := by rw [← Array.length_toList, hit, List.length_map]
  have none_at : ∀ b, s.heap.objs.size ≤ b → s.heap.get? b = none := fun b hb => by
    cases q : s.heap.get? b with
    | none => rfl
    | some o => exact absurd (Heap.lt_size q) (Nat.not_lt.mpr hb)
  refine set_of_list (Post := fun h' _ => ∃ M rs c t, Holds w h' s.heap.objs.size M rs c t ∧ Took N N.length M ∧ ∀ b o, s.heap.get? b = some o → h'.get? b = some o) hl (fun R fin => ?_) fun h' tk ⟨M, rs, c, t, S, T, g⟩ => h h' tk M rs c t S T g
  have ll : l < s.heap.objs.size := by
    obtain ⟨o, ho, _⟩ := hl
    exact Heap.lt_size ho
  have hz : (s.heap.push (bare w)).objs.size = s.heap.objs.size + 1 := Heap.size_push ..
  have hl2 : ((s.heap.push (bare w)).push { cls := .type "list_iterator", data := .fields #[.ref l, .int 0 0] }).IsList l items := (hl.push _).push _
  have it : ((s.heap.push (bare w)).push { cls := .type "list_iterator", data := .fields #[.ref l, .int 0 0] }).get? (s.heap.objs.size + 1) = some { cls := .type "list_iterator", data := .fields #[.ref l, .int 0 0] } := by
    rw [← hz]
    exact Heap.get?_push_size _ rfl
  have up : ∀ b o, s.heap.get? b = some o → ((s.heap.push (bare w)).push { cls := .type "list_iterator", data := .fields #[.ref l, .int 0 0] }).get? b = some o := fun b o e => Heap.get?_push_of_some _ (Heap.get?_push_of_some _ e)
  have isS : ((s.heap.push (bare w)).push { cls := .type "list_iterator", data := .fields #[.ref l, .int 0 0] }).get? s.heap.objs.size = some (bare w) := Heap.get?_push_of_some _ (Heap.get?_push_size _ rfl)
  refine loop_puts (h0 := s.heap) ((Walks.list (A := A.in1.in1.in1) (by simp [hh]) (s.heap.objs.size + 1) l (Nat.ne_of_lt (Nat.lt_succ_of_lt ll)) items).toS) (a := s.heap.objs.size) (fun z => by
    rcases List.mem_cons.mp z with e | e
    · exact absurd e (Nat.ne_of_lt (Nat.lt_succ_self _))
    · exact absurd (List.mem_singleton.mp e) (Nat.ne_of_gt ll)) (N := N) size few (fun i v hv => ?_) kn
    (none_at _ (Nat.le_refl _)) (fun b hb => none_at b (by rw [List.mem_singleton.mp hb]; exact Nat.le_succ _)) (by show A.in1.in1.in1.units + 8 < cLine; simp only [Around.in1_units]; omega) (items.size - 0) 0 _ (by omega) (Nat.zero_le _) ⟨⟨_, it, rfl, rfl⟩, hl2⟩ up ⟨[], #[], 0, _, holds_bare isS, Took.none N⟩
    fun s' M rs c t mv S T g => ?_
  · have q : items.toList[i]? = some v := by rw [Array.getElem?_toList]; exact hv
    rw [hit, List.getElem?_map] at q
    obtain ⟨m, hm, e⟩ := Option.map_eq_some_iff.mp q
    exact ⟨m, hm, e.symm⟩
  · obtain ⟨h', g2, d', tk', os'⟩ := s'
    have e1 : g2 = s.gens := mv.gens
    have e2 : d' = s.drawn := mv.drawn
    have e3 : os' = s.os := mv.os
    subst e1 e2 e3
    rw [size] at T
    exact fin h' tk' ⟨M, rs, c, t, S, T, g⟩
end
end NS

/-! ## N5 -/
set_option maxRecDepth 100000
set_option maxHeartbeats 2000000
/-! N5: the order of keys of any depth, and sorting by it -/
namespace NS
open PySem PySem.Spec PyProof.Rows L2
def ltX (x y : Str) : Bool := decide (x.cps.toList < y.cps.toList)
def kindN : NestedKey → Nat
  | .none => 0
  | .num _ => 1
  | .text _ => 2
  | .tup _ => 3
mutual
/-- Python's order where it has one; else by the kind -/
def ltK : NestedKey → NestedKey → Bool
  | .num a, .num b => decide (a < b)
  | .text a, .text b => ltX a b
  | .tup a, .tup b => ltKs a b
  | a, b => decide (kindN a < kindN b)
def ltKs : List NestedKey → List NestedKey → Bool
  | [], [] => false
  | [], _ :: _ => true
  | _ :: _, [] => false
  | a :: as, b :: bs => if NestedKey.beq a b = true then ltKs as bs else ltK a b
end
mutual
/-- Python has an order of the two, and of all that stands in them place by place -/
def okK : NestedKey → NestedKey → Bool
  | .num _, .num _ => true
  | .text _, .text _ => true
  | .tup a, .tup b => okKs a b
  | _, _ => false
def okKs : List NestedKey → List NestedKey → Bool
  | a :: as, b :: bs => (NestedKey.beq a b || okK a b) && okKs as bs
  | _, _ => true
end
/-! ### it is one -/
theorem ltX_irr (x : Str) : ltX x x = false := decide_eq_false (List.lt_irrefl _)
theorem ltX_tr {x y z : Str} (h1 : ltX x y = true) (h2 : ltX y z = true) : ltX x z = true := decide_eq_true (List.lt_trans (of_decide_eq_true h1) (of_decide_eq_true h2))
theorem ltX_asy {x y : Str} (h : ltX x y = true) : ltX y x = false := by
  cases q : ltX y x with
  | false => rfl
  | true =>
    have z := ltX_tr h q
    rw [ltX_irr] at z
    cases z
theorem str_ext {x y : Str} (h : x.cps.toList = y.cps.toList) : x = y := by
  obtain ⟨⟨a⟩⟩ := x
  obtain ⟨⟨b⟩⟩ := y
  have e : a = b := h
  rw [e]
theorem ltX_tot {x y : Str} (h : x ≠ y) : ltX x y = true ∨ ltX y x = true := by
  by_cases c1 : x.cps.toList < y.cps.toList
  · exact .inl (decide_eq_true c1)
  · by_cases c2 : y.cps.toList < x.cps.toList
    · exact .inr (decide_eq_true c2)
    · exact absurd (str_ext (List.le_antisymm (List.not_lt.mp c2) (List.not_lt.mp c1))) h
theorem beq_no {a b : NestedKey} (h : ¬ NestedKey.beq a b = true) : a ≠ b := fun e => h (by rw [e]; exact NestedKey.beq_self b)
theorem beq_symm {a b : NestedKey} : NestedKey.beq a b = true ↔ NestedKey.beq b a = true := ⟨fun h => by rw [NestedKey.eq_of_beq _ _ h]; exact NestedKey.beq_self _, fun h => by rw [NestedKey.eq_of_beq _ _ h]; exact NestedKey.beq_self _⟩
mutual
theorem ltK_asy : ∀ x y : NestedKey, ltK x y = true → ltK y x = false
  | .none, y, h => by cases y <;> simp_all [ltK, kindN]
  | .num a, y, h => by
    cases y with
    | num b => simp only [ltK, decide_eq_true_eq, decide_eq_false_iff_not] at h ⊢; omega
    | _ => simp_all [ltK, kindN]
  | .text a, y, h => by
    cases y with
    | text b => simp only [ltK] at h ⊢; exact ltX_asy h
    | _ => simp_all [ltK, kindN]
  | .tup a, y, h => by
    cases y with
    | tup b => simp only [ltK] at h ⊢; exact ltKs_asy a b h
    | _ => simp_all [ltK, kindN]
theorem ltKs_asy : ∀ x y : List NestedKey, ltKs x y = true → ltKs y x = false
  | [], [], h => by simp [ltKs] at h
  | [], _ :: _, _ => by simp [ltKs]
  | _ :: _, [], h => by simp [ltKs] at h
  | a :: as, b :: bs, h => by
    rw [ltKs] at h ⊢
    by_cases c : NestedKey.beq a b = true
    · rw [if_pos c] at h
      rw [if_pos (beq_symm.mp c)]
      exact ltKs_asy as bs h
    · rw [if_neg c] at h
      rw [if_neg fun z => c (beq_symm.mp z)]
      exact ltK_asy a b h
end
mutual
theorem ltK_tot : ∀ x y : NestedKey, x ≠ y → ltK x y = true ∨ ltK y x = true
  | .none, y, h => by
    cases y with
    | none => exact absurd rfl h
    | _ => simp [ltK, kindN]
  | .num a, y, h => by
    cases y with
    | num b =>
      have z : a ≠ b := fun e => h (by rw [e])
      simp only [ltK, decide_eq_true_eq]
      omega
    | _ => simp [ltK, kindN]
  | .text a, y, h => by
    cases y with
    | text b => simp only [ltK]; exact ltX_tot fun e => h (by rw [e])
    | _ => simp [ltK, kindN]
  | .tup a, y, h => by
    cases y with
    | tup b => simp only [ltK]; exact ltKs_tot a b fun e => h (by rw [e])
    | _ => simp [ltK, kindN]
theorem ltKs_tot : ∀ x y : List NestedKey, x ≠ y → ltKs x y = true ∨ ltKs y x = true
  | [], [], h => absurd rfl h
  | [], _ :: _, _ => .inl (by simp [ltKs])
  | _ :: _, [], _ => .inr (by simp [ltKs])
  | a :: as, b :: bs, h => by
    rw [ltKs, ltKs]
    by_cases c : NestedKey.beq a b = true
    · rw [if_pos c, if_pos (beq_symm.mp c)]
      exact ltKs_tot as bs fun e => h (by rw [e, NestedKey.eq_of_beq _ _ c])
    · rw [if_neg c, if_neg fun z => c (beq_symm.mp z)]
      exact ltK_tot a b (beq_no c)
end
theorem kind_lt {x y : NestedKey} (h : ltK x y = true) : kindN x ≤ kindN y := by
  cases x <;> cases y <;> simp_all [ltK, kindN]
theorem lt_kind {x y : NestedKey} (h : kindN x < kindN y) : ltK x y = true := by
  cases x <;> cases y <;> simp_all [ltK, kindN]
mutual
theorem ltK_tr : ∀ x y z : NestedKey, ltK x y = true → ltK y z = true → ltK x z = true
  | .none, y, z, h1, h2 => by cases y <;> cases z <;> simp_all [ltK, kindN]
  | .num a, y, z, h1, h2 => by
    cases y with
    | num b =>
      cases z with
      | num c => simp only [ltK, decide_eq_true_eq] at h1 h2 ⊢; omega
      | _ => simp_all [ltK, kindN]
    | _ =>
      have k1 := kind_lt h1
      have k2 := kind_lt h2
      first
        | (exfalso; simp_all [ltK, kindN]; done)
        | (refine lt_kind ?_; simp only [kindN] at k1 k2 ⊢; omega)
  | .text a, y, z, h1, h2 => by
    cases y with
    | text b =>
      cases z with
      | text c => simp only [ltK] at h1 h2 ⊢; exact ltX_tr h1 h2
      | _ => simp_all [ltK, kindN]
    | _ =>
      have k1 := kind_lt h1
      have k2 := kind_lt h2
      first
        | (exfalso; simp_all [ltK, kindN]; done)
        | (refine lt_kind ?_; simp only [kindN] at k1 k2 ⊢; omega)
  | .tup a, y, z, h1, h2 => by
    cases y with
    | tup b =>
      cases z with
      | tup c => simp only [ltK] at h1 h2 ⊢; exact ltKs_tr a b c h1 h2
      | _ => simp_all [ltK, kindN]
    | _ => simp_all [ltK, kindN]
theorem ltKs_tr : ∀ x y z : List NestedKey, ltKs x y = true → ltKs y z = true → ltKs x z = true
  | [], [], _, h, _ => by simp [ltKs] at h
  | [], _ :: _, [], _, h => by simp [ltKs] at h
  | [], _ :: _, _ :: _, _, _ => by simp [ltKs]
  | _ :: _, [], _, h, _ => by simp [ltKs] at h
  | _ :: _, _ :: _, [], _, h => by simp [ltKs] at h
  | a :: as, b :: bs, c :: cs, h1, h2 => by
    rw [ltKs] at h1 h2 ⊢
    by_cases c1 : NestedKey.beq a b = true
    · rw [if_pos c1] at h1
      have e := NestedKey.eq_of_beq _ _ c1
      subst e
      by_cases c2 : NestedKey.beq a c = true
      · rw [if_pos c2] at h2 ⊢
        exact ltKs_tr as bs cs h1 h2
      · rw [if_neg c2] at h2 ⊢
        exact h2
    · rw [if_neg c1] at h1
      by_cases c2 : NestedKey.beq b c = true
      · have e := NestedKey.eq_of_beq _ _ c2
        subst e
        rw [if_neg c1]
        exact h1
      · rw [if_neg c2] at h2
        have t := ltK_tr a b c h1 h2
        by_cases c3 : NestedKey.beq a c = true
        · have e := NestedKey.eq_of_beq _ _ c3
          subst e
          rw [ltK_asy a b h1] at h2
          cases h2
        · rw [if_neg c3]
          exact t
end
theorem ltK_irr (x : NestedKey) : ltK x x = false := by
  cases q : ltK x x with
  | false => rfl
  | true =>
    have z := ltK_asy x x q
    rw [q] at z
    cases z
theorem swo_by {α : Type} (f : α → NestedKey) : SrtO.Swo fun x y => ltK (f x) (f y) := by
  refine ⟨fun x y h => ltK_asy _ _ h, fun x y z h1 h2 => ?_⟩
  cases q : ltK (f z) (f x) with
  | false => rfl
  | true =>
    exfalso
    by_cases e1 : f x = f y
    · rw [← e1, q] at h2
      cases h2
    · rcases ltK_tot _ _ e1 with c | c
      · have t := ltK_tr _ _ _ q c
        rw [t] at h2
        cases h2
      · rw [c] at h1
        cases h1
end NS

/-! ## N6 -/
set_option maxRecDepth 100000
set_option maxHeartbeats 2000000
/-! N6: two keys compared by the machine; a list of them sorted -/
namespace NS
open PySem PySem.Spec PyProof.Rows L2
open PySem.SeqAt (EqAt)
mutual
/-- a key without True and False -/
inductive Pure (h : Heap) : NestedKey → Value → Prop
  | none : Pure h .none .none
  | int (i t) : Pure h (.num i) (.int i t)
  | text (x t) : Pure h (.text x) (.str x t)
  | tup {a o vs n ks} : h.get? a = some o → o.cls = .type "tuple" → o.data = .seq vs n → PureAll h ks vs.toList → Pure h (.tup ks) (.ref a)
inductive PureAll (h : Heap) : List NestedKey → List Value → Prop
  | nil : PureAll h [] []
  | cons {k v ks vs} : Pure h k v → PureAll h ks vs → PureAll h (k :: ks) (v :: vs)
end
mutual
theorem Pure.is {h : Heap} : ∀ (k : NestedKey) (v : Value), Pure h k v → NestedIs h k v
  | .none, _, x => by cases x; exact .none
  | .num _, _, x => by cases x; exact .int _ _
  | .text _, _, x => by cases x; exact .text _ _
  | .tup ks, _, x => by
    cases x with
    | tup h1 h2 h3 h4 => exact .tup h1 h2 h3 (PureAll.is ks _ h4)
theorem PureAll.is {h : Heap} : ∀ (ks : List NestedKey) (vs : List Value), PureAll h ks vs → NestedAll h ks vs
  | [], _, x => by cases x; exact .nil
  | k :: ks, _, x => by
    cases x with
    | cons h1 h2 => exact .cons (Pure.is k _ h1) (PureAll.is ks _ h2)
end
mutual
theorem Pure.grow {h h' : Heap} (g : ∀ a o, h.get? a = some o → o.cls = .type "tuple" → h'.get? a = some o) : ∀ (k : NestedKey) (v : Value), Pure h k v → Pure h' k v
  | .none, _, x => by cases x; exact .none
  | .num _, _, x => by cases x; exact .int _ _
  | .text _, _, x => by cases x; exact .text _ _
  | .tup ks, _, x => by
    cases x with
    | tup h1 h2 h3 h4 => exact .tup (g _ _ h1 h2) h2 h3 (PureAll.grow g ks _ h4)
theorem PureAll.grow {h h' : Heap} (g : ∀ a o, h.get? a = some o → o.cls = .type "tuple" → h'.get? a = some o) : ∀ (ks : List NestedKey) (vs : List Value), PureAll h ks vs → PureAll h' ks vs
  | [], _, x => by cases x; exact .nil
  | k :: ks, _, x => by
    cases x with
    | cons h1 h2 => exact .cons (Pure.grow g k _ h1) (PureAll.grow g ks _ h2)
end
theorem PureAll.len {h : Heap} {ks : List NestedKey} {vs : List Value} (x : PureAll h ks vs) : vs.length = ks.length := NestedAll.length _ _ (PureAll.is _ _ x)
theorem lex_is : ∀ (xs ys : List NestedKey) (e r : Nat → Bool) (z : Bool) (i : Nat), (∀ j, e (i + j) = keyEqAt xs ys j) → (∀ j, r (i + j) = ltK (xs.getD j .none) (ys.getD j .none)) → z = decide (xs.length < ys.length) → Ob.lexAt e r z i (min xs.length ys.length) = ltKs xs ys
  | [], [], e, r, z, i, _, _, hz => by rw [hz]; rfl
  | [], _ :: _, e, r, z, i, _, _, hz => by
    rw [hz]
    show decide (0 < _ + 1) = true
    exact decide_eq_true (Nat.succ_pos _)
  | _ :: _, [], e, r, z, i, _, _, hz => by
    rw [hz]
    show decide (_ + 1 < 0) = false
    exact decide_eq_false (Nat.not_lt_zero _)
  | x :: xs, y :: ys, e, r, z, i, he, hr, hz => by
    have m : min (x :: xs).length (y :: ys).length = min xs.length ys.length + 1 := by simp only [List.length_cons]; omega
    have e0 : e i = NestedKey.beq x y := he 0
    have r0 : r i = ltK x y := hr 0
    rw [m, Ob.lexAt_succ, e0, r0, ltKs]
    by_cases c : NestedKey.beq x y = true
    · rw [if_pos c, if_pos c]
      refine lex_is xs ys e r z (i + 1) (fun j => ?_) (fun j => ?_) ?_
      · have q := he (j + 1)
        rw [show i + 1 + j = i + (j + 1) by omega, q] <;> rfl
      · have q := hr (j + 1)
        rw [show i + 1 + j = i + (j + 1) by omega, q] <;> rfl
      · rw [hz]
        exact decide_eq_decide.mpr (by simp only [List.length_cons]; omega)
    · rw [if_neg c, if_neg c]
theorem room_some {A : Around} {x : NestedKey} {n : Nat} (h : A.units + n < cLine) : A.units < cLine := by omega
mutual
theorem rich : ∀ (x y : NestedKey) (A : Around) (s : Shared) (u v : Value), okK x y = true → Pure s.heap x u → Pure s.heap y v → A.units + min x.depth y.depth < cLine → Ob.RcOp .Lt A s u v (ltK x y)
  | .none, y, _, _, _, _, h, _, _, _ => by cases y <;> simp [okK] at h
  | .num a, y, A, s, _, _, h, ru, rv, _ => by
    cases y with
    | num b => cases ru; cases rv; exact Ob.RcOp.lt_int _ _ _ _
    | _ => simp [okK] at h
  | .text a, y, A, s, _, _, h, ru, rv, _ => by
    cases y with
    | text b => cases ru; cases rv; exact fun prog w E Q q => lt_str q
    | _ => simp [okK] at h
  | .tup xs, y, A, s, _, _, h, ru, rv, hu => by
    cases y with
    | tup ys =>
      cases ru with
      | @tup l o vs n _ h1 h2 h3 h4 =>
        cases rv with
        | @tup l' o' vs' n' _ k1 k2 k3 k4 =>
          have t1 : s.heap.IsTuple l vs := ⟨_, h1, h2, _, h3⟩
          have t2 : s.heap.IsTuple l' vs' := ⟨_, k1, k2, _, k3⟩
          have n1 : vs.size = xs.length := by simpa using h4.len
          have n2 : vs'.size = ys.length := by simpa using k4.len
          have ho : okKs xs ys = true := by simpa only [okK] using h
          have deep : A.in1.units + min (NestedKey.depthAll xs) (NestedKey.depthAll ys) < cLine := by
            simp only [NestedKey.depth, Around.in1_units] at hu ⊢
            omega
          have z := Ob.RcOp.tuples_lt (A := A) (s := s) (e := keyEqAt xs ys) (r := fun j => ltK (xs.getD j .none) (ys.getD j .none)) t1 t2 (by omega) (fun j j1 j2 => ?_) fun j j1 j2 ne => ?_
          · rw [n1, n2] at z
            rw [lex_is xs ys _ _ _ 0 (fun j => by rw [Nat.zero_add]) (fun j => by rw [Nat.zero_add]) rfl] at z
            simp only [ltK]
            exact z
          · have q := eqAt_keys xs ys A.in1 s vs.toList vs'.toList (PureAll.is _ _ h4) (PureAll.is _ _ k4) deep j (by simpa using j1) (by simpa using j2)
            simpa using q
          · have q := richs xs ys A.in1 s vs.toList vs'.toList ho h4 k4 deep j (by simpa using j1) (by simpa using j2) ne
            simpa using q
    | _ => simp [okK] at h
theorem richs : ∀ (xs ys : List NestedKey) (A : Around) (s : Shared) (us vs : List Value), okKs xs ys = true → PureAll s.heap xs us → PureAll s.heap ys vs → A.units + min (NestedKey.depthAll xs) (NestedKey.depthAll ys) < cLine →
    ∀ j (h1 : j < us.length) (h2 : j < vs.length), keyEqAt xs ys j = false → Ob.RcOp .Lt A s us[j] vs[j] (ltK (xs.getD j .none) (ys.getD j .none))
  | [], _, _, _, _, _, _, ra, _, _, j, h1, _, _ => by cases ra; exact absurd h1 (Nat.not_lt_zero _)
  | _ :: _, [], _, _, _, _, _, _, rb, _, j, _, h2, _ => by cases rb; exact absurd h2 (Nat.not_lt_zero _)
  | x :: xs, y :: ys, A, s, _, _, h, ra, rb, hu, j, h1, h2, ne => by
    rw [okKs, Bool.and_eq_true] at h
    simp only [NestedKey.depthAll] at hu
    cases ra with
    | cons r rs =>
      cases rb with
      | cons r' rs' =>
        cases j with
        | zero =>
          have q : okK x y = true := by
            have z : NestedKey.beq x y = false := ne
            rw [z, Bool.false_or] at h
            exact h.1
          exact rich x y A s _ _ q r r' (by omega)
        | succ j => exact richs xs ys A s _ _ h.2 rs rs' (by omega) j (Nat.lt_of_succ_lt_succ h1) (Nat.lt_of_succ_lt_succ h2) ne
end
end NS

/-! ## N7 -/
set_option maxRecDepth 100000
set_option maxHeartbeats 2000000
/-! N7: sorted(xs) and sorted(set) of keys -/
namespace NS
open PySem PySem.Spec PyProof.Rows L2 PySem.W
def tyN (c : Nat) : String := if c = 1 then "int" else if c = 2 then "str" else "tuple"
/-- a tuple whose first item is of the kind c: 1 an int, 2 a text, 3 a tuple -/
def Leads (c : Nat) (k : NestedKey) : Prop := ∃ x xs, k = .tup (x :: xs) ∧ kindN x = c
section
variable {P : Program} {w : World} {A : Around} {E : Value → Shared → Prop} {s : Shared}
theorem lex_asks {b : Bool} : ∀ (xs ys : List NestedKey) (us vs : List Value) (i : Nat) (fin : Bool) (Q : Bool → Shared → Prop), okKs xs ys = true → PureAll s.heap xs us → PureAll s.heap ys vs → A.units + min (NestedKey.depthAll xs) (NestedKey.depthAll ys) < cLine →
    (b = true → i = 0 → ∀ x y, xs.head? = some x → ys.head? = some y → (kindN x = 1 ∧ kindN y = 1) ∨ (kindN x = 2 ∧ kindN y = 2)) → fin = decide (xs.length < ys.length) → Q (ltKs xs ys) s → KatLex P w A b fin Q (us.zip vs) i s
  | [], ys, us, vs, i, fin, Q, _, ra, rb, _, _, hf, q => by
    cases ra
    cases ys with
    | nil => cases rb; rw [hf]; exact kat_nil q
    | cons y ys =>
      cases rb
      rw [hf]
      have z : decide (([] : List NestedKey).length < (y :: ys).length) = true := decide_eq_true (Nat.succ_pos _)
      exact kat_nil (by rw [z]; exact q)
  | x :: xs, [], us, vs, i, fin, Q, _, ra, rb, _, _, hf, q => by
    cases rb
    cases ra
    rw [hf]
    have z : decide ((x :: xs).length < ([] : List NestedKey).length) = false := decide_eq_false (Nat.not_lt_zero _)
    exact kat_nil (by rw [z]; exact q)
  | x :: xs, y :: ys, us, vs, i, fin, Q, h, ra, rb, hu, h1, hf, q => by
    rw [okKs, Bool.and_eq_true] at h
    simp only [NestedKey.depthAll] at hu
    cases ra with
    | @cons _ u _ us r rs =>
      cases rb with
      | @cons _ v _ vs r' rs' =>
        show KatLex P w A b fin Q ((u, v) :: us.zip vs) i s
        refine kat_cons (eqAt_key x y A s u v (Pure.is _ _ r) (Pure.is _ _ r') (by omega) P w _ _ (kat_go (fun c => ?_) fun c => ?_))
        · refine kat_yes (lex_asks xs ys us vs (i + 1) fin Q h.2 rs rs' (by omega) (fun _ z => absurd z (Nat.succ_ne_zero _)) ?_ ?_)
          · rw [hf]
            exact decide_eq_decide.mpr (by simp only [List.length_cons]; omega)
          · rw [ltKs, if_pos c] at q
            exact q
        · have ok : okK x y = true := by
            have z := h.1
            rw [c, Bool.false_or] at z
            exact z
          rw [ltKs, if_neg (by rw [c]; exact Bool.false_ne_true)] at q
          refine kat_no ?_
          by_cases z : (b && i == 0) = true
          · rw [z]
            rw [Bool.and_eq_true] at z
            rcases h1 z.1 (eq_of_beq z.2) x y rfl rfl with ⟨k1, k2⟩ | ⟨k1, k2⟩
            · cases r <;> cases r' <;> simp only [kindN] at k1 k2 <;> first | exact absurd k1 (by decide) | exact absurd k2 (by decide) | skip
              exact oneLt_int (by simpa only [ltK] using q)
            · cases r <;> cases r' <;> simp only [kindN] at k1 k2 <;> first | exact absurd k1 (by decide) | exact absurd k2 (by decide) | skip
              exact oneLt_str (by simpa only [ltK, ltX] using q)
          · have z2 : (b && i == 0) = false := Bool.eq_false_iff.mpr z
            rw [z2]
            refine kat_one _ _ ?_
            exact rich x y A s u v ok r r' (by omega) P w _ _ q
theorem lead_look {M : Model} {h : Heap} {x : NestedKey} {u : Value} (r : Pure h x u) {c : Nat} (hc : c = 1 ∨ c = 2 ∨ c = 3) (k : kindN x = c) : Looks M h (typeOf u) (.type (tyN c)) := by
  cases r with
  | none => rcases hc with e | e | e <;> subst e <;> simp [kindN] at k
  | int i t =>
    have e : c = 1 := k.symm
    subst e
    exact Looks.now
  | text z t =>
    have e : c = 2 := k.symm
    subst e
    exact Looks.now
  | @tup a o vs n ks h1 h2 h3 h4 =>
    have e : c = 3 := k.symm
    subst e
    have z : Looks M h (typeOf (.ref a)) o.cls := (Looks.ld h1).andThen .now
    rw [h2] at z
    exact z
theorem leads_of {h : Heap} {kf : Value → NestedKey} {c : Nat} : ∀ vs : List Value, (∀ v ∈ vs, Pure h (kf v) v ∧ Leads c (kf v)) → ∃ fs, KatTups h vs fs ∧ fs.length = vs.length ∧ ∀ f ∈ fs, ∃ x, Pure h x f ∧ kindN x = c
  | [], _ => ⟨[], KatTups.nil, rfl, fun f z => by cases z⟩
  | v :: vs, hv => by
    obtain ⟨fs, f1, f2, f3⟩ := leads_of vs fun u hu => hv u (List.mem_cons_of_mem _ hu)
    obtain ⟨p, x, xs, e, k⟩ := hv v List.mem_cons_self
    rw [e] at p
    cases p with
    | @tup a o us n _ h1 h2 h3 h4 =>
      cases h5 : us.toList with
      | nil => rw [h5] at h4; cases h4
      | cons f r =>
        rw [h5] at h4
        cases h4 with
        | cons q1 q2 =>
          refine ⟨f :: fs, KatTups.cons h1 h2 h3 (by rw [← Array.getElem?_toList, h5] <;> rfl) f1, by rw [List.length_cons, List.length_cons, f2], fun g hg => ?_⟩
          rcases List.mem_cons.mp hg with z | z
          · rw [z]
            exact ⟨x, q1, k⟩
          · exact f3 g z
/-- what the sort asks of a list of keys -/
structure Sorts (h : Heap) (c : Nat) (kf : Value → NestedKey) (vs : List Value) : Prop where
  kd : c = 1 ∨ c = 2 ∨ c = 3
  each : ∀ v ∈ vs, Pure h (kf v) v ∧ Leads c (kf v) ∧ (kf v).depth ≤ 8
  two : ∀ u ∈ vs, ∀ v ∈ vs, okK (kf u) (kf v) = true
theorem Sorts.grow {h h' : Heap} {c : Nat} {kf : Value → NestedKey} {vs : List Value} (x : Sorts h c kf vs) (g : ∀ a o, h.get? a = some o → o.cls = .type "tuple" → h'.get? a = some o) : Sorts h' c kf vs :=
  ⟨x.kd, fun v hv => ⟨Pure.grow g _ _ (x.each v hv).1, (x.each v hv).2⟩, x.two⟩
theorem sorts_ok {c : Nat} {kf : Value → NestedKey} {vs : List Value} (x : Sorts s.heap c kf vs) (some_ : 0 < vs.length) (hu : A.units + 8 < cLine) {a : Addr} (ha : ∀ o, s.heap.get? a = some o → o.cls ≠ .type "tuple") : SrtO.SortableO P w A s a vs fun u v => ltK (kf u) (kf v) := by
  intro h' keep
  have y : Sorts h' c kf vs := x.grow fun b o e z => keep b o (fun q => ha o (q ▸ e) z) e
  obtain ⟨fs, f1, f2, f3⟩ := leads_of (h := h') (c := c) vs fun v hv => ⟨(y.each v hv).1, (y.each v hv).2.1⟩
  refine ⟨tuples' (Value.type (tyN c) != Value.type "tuple"), fun Q E q => ?_, fun p q hp hq => ?_⟩
  · refine kat_kind (T := .type (tyN c)) f1 (by omega) (fun f hf => ?_) (by simp) q
    obtain ⟨z, z1, z2⟩ := f3 f hf
    exact lead_look z1 y.kd z2
  · obtain ⟨p1, ⟨x1, xs1, e1, k1⟩, d1⟩ := y.each p.1 hp
    obtain ⟨p2, ⟨x2, xs2, e2, k2⟩, d2⟩ := y.each q.1 hq
    have ok := y.two _ hp _ hq
    show wpAny _ _ (keyLt' _ p.1 q.1) (fun r s' => s' = _ ∧ r = ltK (kf p.1) (kf q.1)) _ _
    generalize kf p.1 = kp at *
    generalize kf q.1 = kq at *
    subst e1 e2
    obtain ⟨u, u'⟩ := p
    obtain ⟨v, v'⟩ := q
    dsimp only at p1 p2 ⊢
    cases p1 with
    | @tup l o us n _ h1 h2 h3 h4 =>
      cases p2 with
      | @tup l' o' us' n' _ g1 g2 g3 g4 =>
        simp only [okK] at ok
        simp only [NestedKey.depth] at d1 d2
        refine kat_lt h1 h3 g1 g3 (lex_asks (s := { s with heap := h' }) _ _ _ _ 0 _ _ ok h4 g4 (by omega) (fun hb _ x y ex ey => ?_) ?_ ⟨rfl, by simp only [ltK]⟩)
        · obtain rfl : x1 = x := Option.some.inj ex
          obtain rfl : x2 = y := Option.some.inj ey
          rcases x.kd with e | e | e
          · exact .inl ⟨k1.trans e, k2.trans e⟩
          · exact .inr ⟨k1.trans e, k2.trans e⟩
          · rw [e] at hb
            exact absurd hb (by decide)
        · have n1 : us.size = (x1 :: xs1).length := by simpa using h4.len
          have n2 : us'.size = (x2 :: xs2).length := by simpa using g4.len
          rw [n1, n2]
/-- sorted(xs) -/
theorem sorted_list {l : Addr} {vs : List Value} {c : Nat} {kf : Value → NestedKey} {Q : Value → Shared → Prop} (x : Sorts s.heap c kf vs) (hl : s.heap.IsList l vs.toArray) (hz : vs.length ≤ sizeLine) (hu : A.units + 16 < cLine)
    (h : ∀ (h' : Heap) (d : Addr) (out : List Value), SrtO.Srtd (fun u v => ltK (kf u) (kf v)) out → out.Perm vs → (∀ b o, s.heap.get? b = some o → h'.get? b = some o) → s.heap.objs.size ≤ d → (∃ n, h'.get? d = some (seqObj "list" out.toArray n)) → Q (.ref d) { s with heap := h' }) :
    wpAny (model P w) A (call (.builtin "sorted") [.ref l]) Q E s := by
  refine SrtO.sorted_ord (swo_by kf) hl hz (fun h2 h1 a ha kk => ?_) fun out hs hb => h _ _ out hs hb.perm (fun b o e => sortedAll_old e) (Nat.le_succ _) (sortedAll_at s.heap vs out.toArray)
  refine sorts_ok (s := { s with heap := h1 }) (x.grow fun b o e _ => (kk b o e).2) (by omega) (by simp only [Around.in1_units]; omega) fun o e z => ?_
  rw [ha] at e
  cases e
  exact absurd (Value.type.inj z) (by decide)
/-- sorted(a set) -/
theorem sorted_set {a : Addr} {M : List Row} {rs : Array (Int × Value)} {n : Nat} {t : SetTable} {c : Nat} {kf : Value → NestedKey} {Q : Value → Shared → Prop} (S : Holds w s.heap a M rs n t) (hh : A.handled = none) (hu : A.units + 16 < cLine)
    (hk : ∀ m ∈ M, kf (.ref m.1) = m.2) (x : Sorts s.heap c kf (M.map fun m => Value.ref m.1))
    (h : ∀ s' p out (M' : List Row) e, (∀ b o, s.heap.get? b = some o → s'.heap.get? b = some o) → s'.gens = s.gens → s'.os = s.os → s.heap.objs.size ≤ p → s'.heap.get? p = some (seqObj "list" out e) → out.toList = M'.map (fun m => Value.ref m.1) → M'.Perm M →
      M'.Pairwise (fun m m' => ltK m.2 m'.2 = true) → Q (.ref p) s') : wpAny (model P w) A (call (.builtin "sorted") [.ref a]) Q E s := by
  obtain ⟨o, ho, hex, hd⟩ := S.obj
  have sz := size_of S.is
  have few := S.few
  refine Calls.call_function_entry kind_sorted plain_sorted entry_sorted (args_sorted1 _) ?_
  unfold Builtin.«sorted»
  refine wpAny_bind (m := checkCount "sorted" 1 1 _) (wpAny_pure ?_)
  refine wpAny_bind (collect_set (A := A.in1) hh ⟨o, ho, hex.1, hd⟩ S.fits (by unfold scanBound; omega) S.tab.ris S.led fun s1 vs g1 z1 g2 o1 pm => ?_)
  have ev : rs.toList.map (·.2) = M.map fun m => Value.ref m.1 := by rw [S.is, List.map_map] <;> rfl
  rw [ev] at pm
  have len : vs.length = M.length := by rw [pm.length_eq, List.length_map]
  -- the rows in the order of vs
  have rows : ∀ us : List Value, us.Perm (M.map fun m => Value.ref m.1) → ∃ M' : List Row, us = M'.map (fun m => Value.ref m.1) ∧ M'.Perm M := fun us pu => by
    have inj : ∀ m ∈ M, ∀ m' ∈ M, Value.ref m.1 = Value.ref m'.1 → m = m' := fun m hm m' hm' e => by
      have k := hk m hm
      rw [e, hk m' hm'] at k
      obtain ⟨b, kb⟩ := m
      obtain ⟨b', kb'⟩ := m'
      cases e
      dsimp only at k
      rw [k]
    have key : ∀ us : List Value, ∀ N : List Row, us.Perm (N.map fun m => Value.ref m.1) → ∃ M' : List Row, us = M'.map (fun m => Value.ref m.1) ∧ M'.Perm N := by
      intro us
      induction us with
      | nil =>
        intro N q
        have e : N = [] := List.map_eq_nil_iff.mp q.symm.eq_nil
        exact ⟨[], rfl, by rw [e]⟩
      | cons u us ih =>
        intro N q
        obtain ⟨m, hm, e⟩ := List.mem_map.mp (q.mem_iff.mp List.mem_cons_self)
        obtain ⟨N1, N2, eN⟩ := List.append_of_mem hm
        have q2 : (u :: us).Perm (u :: (N1 ++ N2).map fun m => Value.ref m.1) := by
          refine q.trans ?_
          rw [eN, List.map_append, List.map_cons, List.map_append, e]
          exact List.perm_middle
        obtain ⟨M', e', p'⟩ := ih (N1 ++ N2) q2.cons_inv
        refine ⟨m :: M', by rw [List.map_cons, e, ← e'], ?_⟩
        rw [eN]
        exact (p'.cons m).trans List.perm_middle.symm
    exact key us M pu
  refine wpAny_bind (wpAny_newList ?_ (by rw [sizeLine_eq]; omega))
  have isL : (s1.heap.push (seqObj "list" vs.toArray 0)).get? s1.heap.objs.size = some (seqObj "list" vs.toArray 0) := Heap.get?_push_size _ rfl
  have y : Sorts (s1.heap.push (seqObj "list" vs.toArray 0)) c kf vs := by
    have z : Sorts (s1.heap.push (seqObj "list" vs.toArray 0)) c kf (M.map fun m => Value.ref m.1) := x.grow fun b u e _ => Heap.get?_push_of_some _ (g1 b u e)
    exact ⟨z.kd, fun v hv => z.each v (pm.mem_iff.mp hv), fun u hu' v hv => z.two u (pm.mem_iff.mp hu') v (pm.mem_iff.mp hv)⟩
  refine wpAny_bind (wpAny_holding (wpAny_call_entry slot_list_sort ⟨_, isL, rfl⟩ entry_list_sort (SrtO.list_sort_ord (s := { s1 with heap := s1.heap.push (seqObj "list" vs.toArray 0) }) (swo_by kf) isL (by rw [sizeLine_eq]; omega) (fun two => ?_) fun out hs hb => ⟨_, rfl, ?_⟩) (args_list_sort _)))
  · refine sorts_ok (s := { s1 with heap := s1.heap.push (seqObj "list" vs.toArray 0) }) y (by omega) (by simp only [Around.in1_units]; omega) fun o' e z => ?_
    rw [isL] at e
    cases e
    exact absurd (Value.type.inj z) (by decide)
  · obtain ⟨e, he⟩ := sortedHeap_at (out := out.toArray) isL
    obtain ⟨M', eo, pM⟩ := rows out (hb.perm.trans pm)
    refine wpAny_pure ⟨_, rfl, h _ s1.heap.objs.size out.toArray M' e (fun b u q => ?_) g2 o1 z1 he eo pM ?_⟩
    · have q1 := g1 b u q
      have lt := Heap.lt_size q1
      show (sortedHeap (s1.heap.push (seqObj "list" vs.toArray 0)) s1.heap.objs.size vs out.toArray).get? b = some u
      rw [sortedHeap_old (Nat.ne_of_lt lt) (by rw [size_push']; exact Nat.lt_succ_of_lt lt)]
      exact Heap.get?_push_of_some _ q1
    · have nd : (M'.map (·.2)).Nodup := (pM.map (·.2)).nodup_iff.mpr S.nd
      rw [eo] at hs
      have z := List.pairwise_map.mp hs
      have z2 := List.pairwise_map.mp nd
      refine List.Pairwise.imp_of_mem (fun {m m'} hm hm' hp => ?_) (z.and z2)
      have k1 := hk m (pM.mem_iff.mp hm)
      have k2 := hk m' (pM.mem_iff.mp hm')
      obtain ⟨hp1, hp2⟩ := hp
      dsimp only at hp1
      rw [k1, k2] at hp1
      rcases ltK_tot _ _ hp2 with q | q
      · exact q
      · rw [q] at hp1
        cases hp1
end
end NS

/-! ## N8 -/
set_option maxRecDepth 100000
set_option maxHeartbeats 2000000
/-! N8: sets and sorted lists of keys as rules of the layer -/
namespace NS
open PySem PySem.Spec PyProof.Rows L2
mutual
/-- the value is this key -/
inductive Kv (K : PySem.W.Frag) (H : Hp) : V → NestedKey → Prop
  | non : Kv K H .non .none
  | int (i : Int) : Kv K H (.int i) (.num i)
  | str (x : Str) : Kv K H (.str x) (.text x)
  | tup {t : Addr} {vs : List V} {ks : List NestedKey} : SqT K H t vs → KvAll K H vs ks → Kv K H (.ref t) (.tup ks)
inductive KvAll (K : PySem.W.Frag) (H : Hp) : List V → List NestedKey → Prop
  | nil : KvAll K H [] []
  | cons {v : V} {k : NestedKey} {vs : List V} {ks : List NestedKey} : Kv K H v k → KvAll K H vs ks → KvAll K H (v :: vs) (k :: ks)
end
mutual
theorem kv_same {K : PySem.W.Frag} {H H' : Hp} (g : ∀ t vs, SqT K H t vs → SqT K H' t vs) : ∀ (k : NestedKey) (v : V), Kv K H v k → Kv K H' v k
  | .none, _, x => by cases x; exact .non
  | .num _, _, x => by cases x; exact .int _
  | .text _, _, x => by cases x; exact .str _
  | .tup ks, _, x => by
    cases x with
    | tup h1 h2 => exact .tup (g _ _ h1) (kvs_same g ks _ h2)
theorem kvs_same {K : PySem.W.Frag} {H H' : Hp} (g : ∀ t vs, SqT K H t vs → SqT K H' t vs) : ∀ (ks : List NestedKey) (vs : List V), KvAll K H vs ks → KvAll K H' vs ks
  | [], _, x => by cases x; exact .nil
  | k :: ks, _, x => by
    cases x with
    | cons h1 h2 => exact .cons (kv_same g k _ h1) (kvs_same g ks _ h2)
end
section
variable {X : Cx} {pins : List (Addr × Obj)} {σ : L2.St} {H : Hp} {s : Shared}
mutual
theorem pure_of (I : Inv X pins σ H s) : ∀ (k : NestedKey) (v : V) (u : Value), Kv X.K H v k → RelV v u → Pure s.heap k u
  | .none, _, u, x, r => by cases x; cases r; exact .none
  | .num i, _, u, x, r => by
    cases x
    obtain ⟨t, rfl⟩ := r
    exact .int _ _
  | .text z, _, u, x, r => by
    cases x
    obtain ⟨t, rfl⟩ := r
    exact .text _ _
  | .tup ks, _, u, x, r => by
    cases x with
    | @tup t vs _ h1 h2 =>
      obtain rfl : u = Value.ref t := r
      obtain ⟨its, rv, ⟨o, ho, hc, n, hd⟩, _⟩ := I.tuple h1
      exact .tup ho hc hd (by simpa using pures_of I ks vs its h2 rv)
theorem pures_of (I : Inv X pins σ H s) : ∀ (ks : List NestedKey) (vs : List V) (us : List Value), KvAll X.K H vs ks → Vals vs us → PureAll s.heap ks us
  | [], _, _, x, r => by cases x; cases r; exact .nil
  | k :: ks, _, _, x, r => by
    cases x with
    | cons h1 h2 =>
      cases r with
      | cons r1 r2 => exact .cons (pure_of I k _ _ h1 r1) (pures_of I ks _ _ h2 r2)
end
/-- a row of the layer: where the key stands, the key -/
def Kr (K : PySem.W.Frag) (H : Hp) (m : Row) : Prop := Kv K H (.ref m.1) m.2 ∧ m.2.depth ≤ 8
theorem at_of_kr (I : Inv X pins σ H s) {m : Row} (h : Kr X.K H m) : At s.heap m.2 m.1 := ⟨Pure.is _ _ (pure_of I _ _ _ h.1 rfl), h.2⟩
/-- the set at a -/
def SetN (w : World) (a : Addr) (M : List Row) : HO := .ext fun h => ∃ rs n t, Holds w h a M rs n t
theorem setN_new {P : Program} {w : World} {H : Hp} {h : Heap} {a : Addr} {M : List Row} (S : ∃ rs n t, Holds w h a M rs n t) : ObjOk P w H h a (SetN w a M) := by
  obtain ⟨rs, n, t, S⟩ := S
  obtain ⟨o, ho, _⟩ := S.obj
  exact ⟨⟨rs, n, t, S⟩, ⟨o, ho⟩, fun h1 h2 ⟨rs', n', t', S'⟩ g => ⟨rs', n', t', S'.grow g⟩⟩
theorem refs_row : ∀ {N : List Row} {us : List Value}, Vals (N.map fun m => V.ref m.1) us → us = N.map fun m => Value.ref m.1
  | [], _, r => by cases r; rfl
  | m :: N, _, r => by
    cases r with
    | cons r1 r2 =>
      cases r1
      rw [refs_row r2]
      rfl
theorem row_refs : ∀ N : List Row, Vals (N.map fun m => V.ref m.1) (N.map fun m => Value.ref m.1)
  | [] => .nil
  | _ :: N => .cons rfl (row_refs N)
/-- set(xs) of a list of keys -/
def rSetOf (K : PySem.W.Frag) (w : World) : List V → Hp → VK → Prop := fun xs H Q => ∃ (l : Addr) (N : List Row), xs = [V.ref l] ∧ SqL K H l (N.map fun m => V.ref m.1) ∧ (∀ m ∈ N, Kr K H m) ∧ N.length < 64 ∧
  ∀ a M, H a = none → (∀ m ∈ M, m ∈ N) → (∀ m ∈ N, m.2 ∈ M.map (·.2)) → (M.map (·.2)).Nodup → Q (.ref a) (upd H a (SetN w a M))
theorem cr_setOf (hc : X.calm = true) (hu : X.A.units + 64 < cLine) : CallR X (.type "set") (rSetOf X.K X.w) := by
  intro pins s σ H xs us Q I r h
  obtain ⟨l, N, rfl, hl, hk, few, q⟩ := h
  rw [Vals.ref1 r]
  obtain ⟨its, rv, pl, hz⟩ := I.list hl
  refine set_keys (P := X.prog) (w := X.w) (N := N) (I.ok.hd hc) pl.isList (by simpa using refs_row rv) (fun m hm => at_of_kr I (hk m hm)) few (by omega) fun h' tk M rs c t S T g => ?_
  exact ⟨.ref s.heap.objs.size, upd H s.heap.objs.size (SetN X.w s.heap.objs.size M), I.laid (t' := tk) g (Nat.le_refl _) (setN_new ⟨rs, c, t, S⟩), rfl, q _ M (I.hok.fresh (Nat.le_refl _)) T.sub (fun m hm => T.all m (by rw [List.take_length]; exact hm)) S.nd⟩
/-- by their addresses, the keys -/
def keyOf (N : List Row) (u : Value) : NestedKey := ((N.find? fun m => match u with | .ref b => m.1 == b | _ => false).map (·.2)).getD .none
theorem keyOf_at {N : List Row} (one : ∀ m ∈ N, ∀ m' ∈ N, m.1 = m'.1 → m.2 = m'.2) {m : Row} (hm : m ∈ N) : keyOf N (.ref m.1) = m.2 := by
  unfold keyOf
  cases e : N.find? fun m' => m'.1 == m.1 with
  | none =>
    have z := List.find?_eq_none.mp e m hm
    simp at z
  | some m' =>
    have z := List.find?_some e
    exact one m' (List.mem_of_find?_eq_some e) m hm (eq_of_beq z)
/-- such keys are sorted by their order -/
structure Lined (c : Nat) (N : List Row) : Prop where
  kd : c = 1 ∨ c = 2 ∨ c = 3
  lead : ∀ m ∈ N, Leads c m.2
  two : ∀ m ∈ N, ∀ m' ∈ N, okK m.2 m'.2 = true
theorem sorts_of (I : Inv X pins σ H s) {N : List Row} {c : Nat} (hk : ∀ m ∈ N, Kr X.K H m) (L : Lined c N) : Sorts s.heap c (keyOf N) (N.map fun m => Value.ref m.1) ∧ ∀ m ∈ N, keyOf N (.ref m.1) = m.2 := by
  have one : ∀ m ∈ N, ∀ m' ∈ N, m.1 = m'.1 → m.2 = m'.2 := fun m hm m' hm' e => by
    have x := at_of_kr I (hk m hm)
    rw [e] at x
    exact x.one (at_of_kr I (hk m' hm'))
  have at_ : ∀ m ∈ N, keyOf N (.ref m.1) = m.2 := fun m hm => keyOf_at one hm
  refine ⟨⟨L.kd, fun v hv => ?_, fun u hu v hv => ?_⟩, at_⟩
  · obtain ⟨m, hm, rfl⟩ := List.mem_map.mp hv
    rw [at_ m hm]
    exact ⟨pure_of I _ _ _ (hk m hm).1 rfl, L.lead m hm, (hk m hm).2⟩
  · obtain ⟨m, hm, rfl⟩ := List.mem_map.mp hu
    obtain ⟨m', hm', rfl⟩ := List.mem_map.mp hv
    rw [at_ m hm, at_ m' hm']
    exact L.two m hm m' hm'
/-- sorted(a set of keys) -/
def rSortSet (K : PySem.W.Frag) (w : World) : List V → Hp → VK → Prop := fun vs H Q => ∃ (a : Addr) (M : List Row) (c : Nat), vs = [V.ref a] ∧ H a = some (SetN w a M) ∧ (∀ m ∈ M, Kr K H m) ∧ Lined c M ∧
  ∀ (M' : List Row) (p : Addr), M'.Perm M → M'.Pairwise (fun m m' => ltK m.2 m'.2 = true) → H p = none → Q (.ref p) (upd H p (.lst (M'.map fun m => V.ref m.1)))
theorem cr_sortSet (hc : X.calm = true) (hu : X.A.units + 64 < cLine) : CallR X (.builtin "sorted") (rSortSet X.K X.w) := by
  intro pins s σ H vs us Q I r h
  obtain ⟨a, M, c, rfl, ha, hk, L, q⟩ := h
  obtain ⟨rs, n, t, S⟩ := (I.hok a _ ha).1
  rw [Vals.ref1 r]
  obtain ⟨So, at_⟩ := sorts_of I hk L
  refine sorted_set S (I.ok.hd hc) (by omega) at_ So fun s' p out M' e g g2 o hp hg ho pm pw => ?_
  have few : M'.length < 64 := by rw [pm.length_eq]; exact S.few
  have len : (M'.map fun m => V.ref m.1).length ≤ sizeLine := by rw [List.length_map, sizeLine_eq]; omega
  have J : Inv X pins σ (upd H p (.lst (M'.map fun m => V.ref m.1))) { s with heap := s'.heap, gens := s'.gens, drawn := s'.drawn, toks := s'.toks } :=
    I.call (ch := []) (Un.laid g hp (I.hok.fresh hp)) (I.hok.laid g hp ⟨len, out.toList, e, by rw [ho]; exact row_refs M', by simpa using hg⟩) (by rw [g2]; exact I.bare) fun _ z => nomatch z
  have es : s' = { s with heap := s'.heap, gens := s'.gens, drawn := s'.drawn, toks := s'.toks } := by
    cases s'
    cases s
    cases o
    rfl
  rw [es]
  exact ⟨.ref p, _, J, rfl, q M' p pm pw (I.hok.fresh hp)⟩
/-- sorted(a list of keys) -/
def rSortList (K : PySem.W.Frag) : List V → Hp → VK → Prop := fun vs H Q => ∃ (l : Addr) (N : List Row) (c : Nat), vs = [V.ref l] ∧ SqL K H l (N.map fun m => V.ref m.1) ∧ (∀ m ∈ N, Kr K H m) ∧ Lined c N ∧
  ∀ (M' : List Row) (p : Addr), M'.Perm N → M'.Pairwise (fun m m' => ltK m'.2 m.2 = false) → H p = none → Q (.ref p) (upd H p (.lst (M'.map fun m => V.ref m.1)))
theorem perm_rows (N : List Row) : ∀ us : List Value, us.Perm (N.map fun m => Value.ref m.1) → ∃ M' : List Row, us = M'.map (fun m => Value.ref m.1) ∧ M'.Perm N := by
  intro us
  induction us generalizing N with
  | nil =>
    intro q
    have e : N = [] := List.map_eq_nil_iff.mp q.symm.eq_nil
    exact ⟨[], rfl, by rw [e]⟩
  | cons u us ih =>
    intro q
    obtain ⟨m, hm, e⟩ := List.mem_map.mp (q.mem_iff.mp List.mem_cons_self)
    obtain ⟨N1, N2, eN⟩ := List.append_of_mem hm
    have q2 : (u :: us).Perm (u :: (N1 ++ N2).map fun m => Value.ref m.1) := by
      refine q.trans ?_
      rw [eN, List.map_append, List.map_cons, List.map_append, e]
      exact List.perm_middle
    obtain ⟨M', e', p'⟩ := ih (N1 ++ N2) q2.cons_inv
    refine ⟨m :: M', by rw [List.map_cons, e, ← e'], ?_⟩
    rw [eN]
    exact (p'.cons m).trans List.perm_middle.symm
theorem cr_sortList (hu : X.A.units + 64 < cLine) : CallR X (.builtin "sorted") (rSortList X.K) := by
  intro pins s σ H vs us Q I r h
  obtain ⟨l, N, c, rfl, hl, hk, L, q⟩ := h
  rw [Vals.ref1 r]
  obtain ⟨its, rv, pl, hz⟩ := I.list hl
  have ei := refs_row rv
  subst ei
  obtain ⟨So, at_⟩ := sorts_of I hk L
  have hz2 : (N.map fun m => Value.ref m.1).length ≤ sizeLine := by
    rw [List.length_map] at hz ⊢
    exact hz
  refine sorted_list So pl.isList hz2 (by omega) fun h' d out hs pm g hd hn => ?_
  obtain ⟨M', eo, pM⟩ := perm_rows N out pm
  obtain ⟨n, hn⟩ := hn
  have len : (M'.map fun m => V.ref m.1).length ≤ sizeLine := by
    rw [List.length_map, pM.length_eq]
    rw [List.length_map] at hz
    exact hz
  refine ⟨.ref d, upd H d (.lst (M'.map fun m => V.ref m.1)), I.laid (t' := s.toks) g hd ⟨len, out, n, by rw [eo]; exact row_refs M', hn⟩, rfl, q M' d pM ?_ (I.hok.fresh hd)⟩
  rw [eo] at hs
  refine List.Pairwise.imp_of_mem (fun {m m'} hm hm' hp => ?_) (List.pairwise_map.mp hs)
  dsimp only at hp
  rw [at_ m (pM.mem_iff.mp hm), at_ m' (pM.mem_iff.mp hm')] at hp
  exact hp
end
end NS

/-! ## Q0 -/
set_option maxRecDepth 100000
set_option maxHeartbeats 2000000
namespace K0
open PySem PySem.Spec PyProof.Rows L2
/-! ### the letters of a text as a tuple, as a list -/
def lettersOf (z : Str) : List Str := z.cps.toList.map fun c => ⟨#[c]⟩
theorem letters_len (z : Str) : (lettersOf z).length = z.cps.size := by
  unfold lettersOf
  rw [List.length_map, Array.length_toList]
theorem letters_vals {z : Str} {acc : Array Value} (h : ItemsOf (SignAt z) acc z.cps.size) : Vals ((lettersOf z).map V.str) acc.toList := by
  obtain ⟨hn, at_⟩ := h
  have go : ∀ (cs : List Nat) (us : List Value), us.length = cs.length → (∀ (j : Nat) (v : Value), us[j]? = some v → ∃ (c : Nat) (u : Tok), cs[j]? = some c ∧ v = Value.str ⟨#[c]⟩ u) → Vals ((cs.map fun c => (⟨#[c]⟩ : Str)).map V.str) us := by
    intro cs
    induction cs with
    | nil =>
      intro us e _
      rw [List.eq_nil_of_length_eq_zero e]
      exact .nil
    | cons c cs ih =>
      intro us e a
      cases us with
      | nil => cases e
      | cons u us =>
        obtain ⟨c', t, hc, rfl⟩ := a 0 u rfl
        obtain rfl : c = c' := Option.some.inj hc
        exact .cons ⟨t, rfl⟩ (ih us (Nat.succ.inj e) fun j v hj => a (j + 1) v hj)
  refine go z.cps.toList acc.toList (by rw [Array.length_toList, Array.length_toList, hn]) fun j v hj => ?_
  obtain ⟨c, u, e1, e2⟩ := at_ j v (by rw [← Array.getElem?_toList]; exact hj)
  exact ⟨c, u, by rw [Array.getElem?_toList]; exact e1, e2⟩
section
variable {X : Cx}
theorem cr_tupleTx (hc : X.calm = true) : CallR X (.type "tuple") (fun xs H Q => ∃ z, xs = [.str z] ∧ z.cps.size ≤ 1000 ∧ ∀ t, H t = none → Q (.ref t) (upd H t (.tup ((lettersOf z).map V.str)))) := by
  intro pins s σ H xs us Q I r h
  obtain ⟨z, rfl, hz, q⟩ := h
  obtain ⟨u, rfl, rx⟩ := vals1 r
  obtain ⟨t, rfl⟩ := rx
  have hs : z.cps.size ≤ sizeLine := Nat.le_trans hz (by rw [sizeLine_eq]; decide)
  refine call_tuple_str (I.ok.hd hc) z t (fun h' tk acc g it => ?_) hs
  have I1 : Inv X pins σ H { s with heap := h', toks := tk } := I.kept (t' := tk) g
  have I2 : Inv X pins σ (upd H h'.objs.size (.tup ((lettersOf z).map V.str))) { s with heap := h'.push { cls := .type "tuple", data := .seq acc }, toks := tk } :=
    I1.laid (t' := tk) (fun b o e => Heap.get?_push_of_some _ e) (Nat.le_refl _) (show ObjOk X.prog X.w _ _ _ (.tup _) from ⟨by rw [List.length_map, letters_len]; exact hs, acc.toList, letters_vals it, by simpa using IsTup.new h' acc⟩)
  exact ⟨.ref h'.objs.size, _, I2, rfl, q _ (I1.hok.fresh (Nat.le_refl _))⟩
theorem cr_listTx (hc : X.calm = true) : CallR X (.type "list") (fun xs H Q => ∃ z, xs = [.str z] ∧ z.cps.size ≤ 1000 ∧ ∀ l, H l = none → Q (.ref l) (upd H l (.lst ((lettersOf z).map V.str)))) := by
  intro pins s σ H xs us Q I r h
  obtain ⟨z, rfl, hz, q⟩ := h
  obtain ⟨u, rfl, rx⟩ := vals1 r
  obtain ⟨t, rfl⟩ := rx
  have hs : z.cps.size ≤ sizeLine := Nat.le_trans hz (by rw [sizeLine_eq]; decide)
  refine call_list_str (I.ok.hd hc) z t (fun h' tk acc c g isL it => ?_) hs
  exact ⟨.ref s.heap.objs.size, _, I.laid (t' := tk) g (Nat.le_refl _) (show ObjOk X.prog X.w _ h' _ (.lst _) from ⟨by rw [List.length_map, letters_len]; exact hs, acc.toList, c, letters_vals it, by simpa using isL⟩), rfl, q _ (I.hok.fresh (Nat.le_refl _))⟩
/-- tuple(x), x a text or a tuple -/
def rTupX (K : PySem.W.Frag) : List V → Hp → VK → Prop := fun xs H Q => (∃ z, xs = [.str z] ∧ z.cps.size ≤ 1000 ∧ ∀ t, H t = none → Q (.ref t) (upd H t (.tup ((lettersOf z).map V.str)))) ∨ (∃ a ys, xs = [.ref a] ∧ SqT K H a ys ∧ Q (.ref a) H)
theorem cr_tupX (hc : X.calm = true) : CallR X (.type "tuple") (rTupX X.K) := CallR.or (cr_tupleTx hc) call_tupleT
end
end K0

/-! ## Q1 -/
set_option maxRecDepth 100000
set_option maxHeartbeats 2000000
namespace K0
open PySem L2 NS
/-! ### a comprehension that makes objects -/
theorem lc_made {J : It} {n : Nat} {G : Hp → Prop} {Y : Nat → Hp → V → Hp → Prop} (w : Walk J n G Y) {g : TG} {te : TE} {vs : List Nat} {σ : L2.St} {H1 : Hp} {D : Addr} {Qd : Hp → Prop} (R : Nat → V → Hp → Prop)
    (mono : ∀ i y H H', R i y H → Kd D H H' → R i y H') (hn : n < sizeLine) (hD : H1 D = none) (hG : ∀ H, Same H1 H → G H)
    (hs : ∀ i x H H', i < n → Same H1 H → (∃ acc, H D = some (.lst acc)) → Y i H x H' → g x (wipe σ vs) H' fun σ2 H2 => wipe σ2 vs = wipe σ vs ∧ ∀ (Q : V → Hp → Prop), (∀ y H4, Same H H4 → R i y H4 → Q y H4) → te σ2 H2 Q)
    (gm : ∀ x σ H (P R : L2.St → Hp → Prop), (∀ σ2 H2, P σ2 H2 → R σ2 H2) → g x σ H P → g x σ H R)
    (hd : ∀ H acc, Same H1 H → H D = some (.lst acc) → acc.length = n → (∀ i y, acc[i]? = some y → R i y H) → Qd H) :
    ∃ W : Nat → Nat → Hp → Prop, (∃ m, W 0 m (upd H1 D (.lst []))) ∧ ∀ i m H, W i m H →
      (J.stop i H ∧ Qd H) ∨ (J.go i H ∧ ∃ Nx : Hp → Prop, (∀ H', Nx H' → ∃ m', m' < m ∧ W (i + 1) m' H') ∧ ∀ x H', J.yld i H x H' → g x (wipe σ vs) H' fun σ2 H2 => wipe σ2 vs = wipe σ vs ∧ tYes σ2 H2 fun b H3 =>
        if b = true then te σ2 H3 fun y H4 => ∃ acc, H4 D = some (.lst acc) ∧ acc.length < sizeLine ∧ Nx (upd H4 D (.lst (acc ++ [y]))) else Nx H3) := by
  refine lc_it w (fun i H => Same H1 H ∧ ∃ acc, H D = some (.lst acc) ∧ acc.length = i ∧ ∀ j y, acc[j]? = some y → R j y H) ⟨Same.new _ hD, [], upd_same, rfl, fun j y z => by simp at z⟩ (fun i H _ p => hG H p.1) (fun i x H H' hi p y => ?_) (fun H p => ?_)
  · obtain ⟨p1, acc, p2, p3, p4⟩ := p
    refine gm _ _ _ _ _ (fun σ2 H2 q => ⟨q.1, ?_⟩) (hs i x H H' hi p1 ⟨acc, p2⟩ y)
    dsimp only [tYes]
    rw [if_pos rfl]
    refine q.2 _ fun y H4 s4 r4 => ⟨acc, s4 _ _ p2, by omega, ?_, acc ++ [y], upd_same, by rw [List.length_append, p3]; rfl, ?_⟩
    · exact fun b o e => by rw [upd_ne (ne_of_none e hD)]; exact s4 _ _ (p1 _ _ e)
    · intro j u hu
      have kd : Kd D H4 (upd H4 D (.lst (acc ++ [y]))) := fun b o nb e => by rw [upd_ne nb]; exact e
      by_cases c : j < acc.length
      · rw [List.getElem?_append_left c] at hu
        exact mono _ _ _ _ (mono _ _ _ _ (p4 j u hu) fun b o _ e => s4 _ _ e) kd
      · have c2 : j = acc.length := by
          have z := (List.getElem?_eq_some_iff.mp hu).1
          rw [List.length_append] at z
          simp at z
          omega
        rw [c2, List.getElem?_append_right (Nat.le_refl _), Nat.sub_self] at hu
        obtain rfl : y = u := Option.some.inj hu
        rw [c2, p3]
        exact mono _ _ _ _ r4 kd
  · obtain ⟨p1, acc, p2, p3, p4⟩ := p
    exact hd H acc p1 p2 p3 p4
theorem gPair_mono {K : PySem.W.Frag} {i j : Nat} : ∀ x σ H (P R : L2.St → Hp → Prop), (∀ σ2 H2, P σ2 H2 → R σ2 H2) → gTup K 2 (gCons (gName i) (gCons (gName j) gNil)) x σ H P → gTup K 2 (gCons (gName i) (gCons (gName j) gNil)) x σ H R :=
  fun x σ H P R h ⟨a, xs, e1, e2, e3, v, r, e4, v2, r2, e5, e6, p⟩ => ⟨a, xs, e1, e2, e3, v, r, e4, v2, r2, e5, e6, h _ _ p⟩
/-! ### clauses -/
abbrev CL := Str × List Str
def ClA (H : Hp) (t : Addr) (c : CL) : Prop := ∃ t2, H t = some (.tup [.str c.1, .ref t2]) ∧ H t2 = some (.tup (c.2.map V.str))
theorem ClA.same {H H' : Hp} {t : Addr} {c : CL} (h : ClA H t c) (s : Same H H') : ClA H' t c := by
  obtain ⟨t2, h1, h2⟩ := h
  exact ⟨t2, s _ _ h1, s _ _ h2⟩
def keyC (c : CL) : NestedKey := .tup [.text c.1, .tup (c.2.map NestedKey.text)]
theorem depth_texts : ∀ l : List Str, NestedKey.depthAll (l.map NestedKey.text) = 0
  | [] => rfl
  | _ :: l => by rw [List.map_cons, NestedKey.depthAll, depth_texts l]; rfl
theorem keyC_depth (c : CL) : (keyC c).depth = 2 := by
  simp [keyC, NestedKey.depth, NestedKey.depthAll, depth_texts]
theorem texts_kv {K : PySem.W.Frag} {H : Hp} : ∀ l : List Str, KvAll K H (l.map V.str) (l.map NestedKey.text)
  | [] => .nil
  | _ :: l => .cons (.str _) (texts_kv l)
theorem ClA.kr {K : PySem.W.Frag} {H : Hp} {t : Addr} {c : CL} (h : ClA H t c) : Kr K H (t, keyC c) := by
  obtain ⟨t2, h1, h2⟩ := h
  exact ⟨.tup (SqT.of h1) (.cons (.str _) (.cons (.tup (SqT.of h2) (texts_kv _)) .nil)), by show (keyC c).depth ≤ 8; rw [keyC_depth]; decide⟩
theorem ok_texts : ∀ l m : List Str, okKs (l.map NestedKey.text) (m.map NestedKey.text) = true
  | [], _ => by simp [okKs]
  | _ :: _, [] => by simp [okKs]
  | a :: l, b :: m => by
    rw [List.map_cons, List.map_cons, okKs, ok_texts l m]
    simp [okK]
theorem ok_clauses (c c' : CL) : okK (keyC c) (keyC c') = true := by
  simp [keyC, okK, okKs, ok_texts]
theorem map_text_inj : ∀ {l m : List Str}, l.map NestedKey.text = m.map NestedKey.text → l = m
  | [], [], _ => rfl
  | [], _ :: _, h => by cases h
  | _ :: _, [], h => by cases h
  | a :: l, b :: m, h => by
    rw [List.map_cons, List.map_cons] at h
    injection h with h1 h2
    injection h1 with h1
    rw [h1, map_text_inj h2]
theorem keyC_inj {c c' : CL} (h : keyC c = keyC c') : c = c' := by
  unfold keyC at h
  injection h with h
  injection h with h1 h2
  injection h1 with h1
  injection h2 with h2 _
  injection h2 with h2
  exact Prod.ext h1 (map_text_inj h2)
def ltC (c c' : CL) : Bool := ltK (keyC c) (keyC c')
theorem ltC_irr (c : CL) : ltC c c = false := ltK_irr _
theorem ltC_tr {a b c : CL} (h1 : ltC a b = true) (h2 : ltC b c = true) : ltC a c = true := ltK_tr _ _ _ h1 h2
/-- clauses at these addresses -/
inductive Cls (H : Hp) : List Addr → List CL → Prop
  | nil : Cls H [] []
  | cons {t : Addr} {c : CL} {ts : List Addr} {cs : List CL} : ClA H t c → Cls H ts cs → Cls H (t :: ts) (c :: cs)
theorem Cls.same {H H' : Hp} (s : Same H H') : ∀ {ts : List Addr} {cs : List CL}, Cls H ts cs → Cls H' ts cs
  | _, _, .nil => .nil
  | _, _, .cons h r => .cons (h.same s) (r.same s)
theorem Cls.len {H : Hp} : ∀ {ts : List Addr} {cs : List CL}, Cls H ts cs → ts.length = cs.length
  | _, _, .nil => rfl
  | _, _, .cons _ r => by rw [List.length_cons, List.length_cons, r.len]
/-- what is written where no tuple stands -/
theorem ClA.off {H : Hp} {t p : Addr} {c : CL} {o : HO} (h : ClA H t c) (hp : ∀ xs, H p ≠ some (.tup xs)) : ClA (upd H p o) t c := by
  obtain ⟨t2, h1, h2⟩ := h
  exact ⟨t2, by rw [upd_ne fun z => hp _ (z ▸ h1)]; exact h1, by rw [upd_ne fun z => hp _ (z ▸ h2)]; exact h2⟩
theorem Cls.off {H : Hp} {p : Addr} {o : HO} (hp : ∀ xs, H p ≠ some (.tup xs)) : ∀ {ts : List Addr} {cs : List CL}, Cls H ts cs → Cls (upd H p o) ts cs
  | _, _, .nil => .nil
  | _, _, .cons h r => .cons (h.off hp) (r.off hp)
/-- rows of keys that are clauses -/
theorem rows_cls {H : Hp} : ∀ N : List Row, (∀ m ∈ N, ∃ c, m.2 = keyC c ∧ ClA H m.1 c) → ∃ cs, Cls H (N.map (·.1)) cs ∧ cs.map keyC = N.map (·.2)
  | [], _ => ⟨[], .nil, rfl⟩
  | m :: N, h => by
    obtain ⟨c, e, a⟩ := h m List.mem_cons_self
    obtain ⟨cs, r1, r2⟩ := rows_cls N fun u hu => h u (List.mem_cons_of_mem _ hu)
    exact ⟨c :: cs, .cons a r1, by rw [List.map_cons, List.map_cons, r2, e]⟩
theorem lined_cls {N : List Row} (h : ∀ m ∈ N, ∃ c, m.2 = keyC c) : Lined 2 N := by
  refine ⟨.inr (.inl rfl), fun m hm => ?_, fun m hm m' hm' => ?_⟩
  · obtain ⟨c, e⟩ := h m hm
    exact ⟨_, _, e, rfl⟩
  · obtain ⟨c, e⟩ := h m hm
    obtain ⟨c', e'⟩ := h m' hm'
    rw [e, e']
    exact ok_clauses c c'
/-! ### a plain question -/
structure PQ where
  cls : List CL
  asked : List Str
def PlA (H : Hp) (d : Addr) (q : PQ) : Prop := ∃ lc la ts, H d = some (.dK [(.inr "clauses", .ref lc), (.inr "asked", .ref la)]) ∧ H lc = some (.lst (ts.map V.ref)) ∧ Cls H ts q.cls ∧ H la = some (.lst (q.asked.map V.str))
theorem PlA.same {H H' : Hp} {d : Addr} {q : PQ} (h : PlA H d q) (s : Same H H') : PlA H' d q := by
  obtain ⟨lc, la, ts, h1, h2, h3, h4⟩ := h
  exact ⟨lc, la, ts, s _ _ h1, s _ _ h2, h3.same s, s _ _ h4⟩
/-- what a clause is made of: a table, and a text or a tuple of columns -/
def InA (H : Hp) (t : Addr) (c : CL) : Prop := ∃ x, H t = some (.tup [.str c.1, x]) ∧ ((∃ z : Str, x = .str z ∧ c.2 = lettersOf z ∧ z.cps.size ≤ 1000) ∨ ∃ t2, x = .ref t2 ∧ H t2 = some (.tup (c.2.map V.str)))
theorem InA.same {H H' : Hp} {t : Addr} {c : CL} (h : InA H t c) (s : Same H H') : InA H' t c := by
  obtain ⟨x, h1, h2⟩ := h
  exact ⟨x, s _ _ h1, h2.imp id fun ⟨t2, e, z⟩ => ⟨t2, e, s _ _ z⟩⟩
inductive Ins (H : Hp) : List Addr → List CL → Prop
  | nil : Ins H [] []
  | cons {t : Addr} {c : CL} {ts : List Addr} {cs : List CL} : InA H t c → Ins H ts cs → Ins H (t :: ts) (c :: cs)
theorem Ins.at_ {H : Hp} : ∀ {ts : List Addr} {cs : List CL}, Ins H ts cs → ∀ (i : Nat) (h : i < ts.length), ∃ c, cs[i]? = some c ∧ InA H ts[i] c
  | _, _, .nil, i, h => absurd h (Nat.not_lt_zero _)
  | _, _, .cons (c := c) a r, i, h => by
    cases i with
    | zero => exact ⟨c, rfl, a⟩
    | succ i => exact r.at_ i (Nat.lt_of_succ_lt_succ h)
theorem Ins.len {H : Hp} : ∀ {ts : List Addr} {cs : List CL}, Ins H ts cs → ts.length = cs.length
  | _, _, .nil => rfl
  | _, _, .cons _ r => by rw [List.length_cons, List.length_cons, r.len]
theorem Cls.ins {H : Hp} : ∀ {ts : List Addr} {cs : List CL}, Cls H ts cs → Ins H ts cs
  | _, _, .nil => .nil
  | _, _, .cons ⟨t2, h1, h2⟩ r => .cons ⟨_, h1, .inr ⟨t2, rfl, h2⟩⟩ r.ins
/-- rows made one by one -/
theorem rows_made {H : Hp} {D : Addr} : ∀ (acc : List V) (cs : List CL), acc.length = cs.length → (∀ (i : Nat) (y : V), acc[i]? = some y → ∃ (t t2 : Addr) (c : CL), y = V.ref t ∧ cs[i]? = some c ∧ t ≠ D ∧ t2 ≠ D ∧ H t = some (.tup [.str c.1, .ref t2]) ∧ H t2 = some (.tup (c.2.map V.str))) →
    ∃ N : List Row, acc = N.map (fun m => V.ref m.1) ∧ N.map (·.2) = cs.map keyC ∧ ∀ m ∈ N, ∃ c, m.2 = keyC c ∧ ClA H m.1 c
  | [], [], _, _ => ⟨[], rfl, rfl, fun m z => by cases z⟩
  | [], _ :: _, e, _ => by cases e
  | _ :: _, [], e, _ => by cases e
  | y :: acc, c :: cs, e, h => by
    obtain ⟨t, t2, c', rfl, hc, _, _, h1, h2⟩ := h 0 y rfl
    obtain rfl : c = c' := Option.some.inj hc
    obtain ⟨N, n1, n2, n3⟩ := rows_made acc cs (Nat.succ.inj e) fun i u hu => h (i + 1) u hu
    refine ⟨(t, keyC c) :: N, by rw [List.map_cons, ← n1], by rw [List.map_cons, List.map_cons, n2], fun m hm => ?_⟩
    rcases List.mem_cons.mp hm with z | z
    · rw [z]
      exact ⟨c, rfl, t2, h1, h2⟩
    · exact n3 m z
theorem pair_map {cs : List CL} (h : (cs.map keyC).Pairwise fun k k' => ltK k k' = true) : cs.Pairwise fun c c' => ltC c c' = true := List.pairwise_map.mp h
abbrev sQuest : Stmt := top 34
def spQuest : Sp := fun vs H Q _ => ∃ (a b : Addr) (ts : List Addr) (cs : List CL) (as : List Str), vs = [.ref a, .ref b] ∧ H a = some (.lst (ts.map V.ref)) ∧ Ins H ts cs ∧ H b = some (.lst (as.map V.str)) ∧ ts.length < 64 ∧
  ∀ cs' H' d, Same H H' → H d = none → PlA H' d ⟨cs', as⟩ → cs'.Pairwise (fun c c' => ltC c c' = true) → (∀ c, c ∈ cs' ↔ c ∈ cs) → Q (.ref d) H'
structure TQ (K : PySem.W.Frag) (mg : Str → Option Value) : Prop where
  tup : mg "tuple" = none
  srt : mg "sorted" = none
  set : mg "set" = none
  list : mg "list" = none
section
variable {P : Program} {w : World} {K : PySem.W.Frag} {mg : Str → Option Value} {base : Heap}
abbrev nQuest : List Str := ["_law_clauses", "_law_asked", "_law_table", "_law_columns_here"]
theorem scQuest : FnScope nQuest ["_law_clauses", "_law_asked"] (defScope sQuest) := ⟨rfl, rfl, rfl, by decide +kernel, rfl, by decide +kernel, by decide +kernel⟩
theorem ok_quest {f : Addr} {fd : FuncData} (F : Fun K "_law_question" "_law_question" sQuest f fd) (T : TQ K mg) : FnOk P w K mg base CX0 1 f fd ["_law_clauses", "_law_asked"] spQuest := by
  refine F.ok scQuest (fun vs H Q E h => ?_) (fun cdv A outer s H vs Q E hr h => ?_)
  · obtain ⟨a, b, ts, cs, as, rfl, _⟩ := h
    rfl
  · obtain ⟨a, b, ts, cs, as, rfl, ha, hin, hb, few, k⟩ := h
    refine ⟨_, pss_one (ps_ret (pe_disp (pps_cons pe_str (pe_callB (cr_sortSet rfl hr.units) (by rfl) T.srt (by decide +kernel) (pa_cons (pe_callTy (cr_setOf rfl hr.units) (by rfl) T.set (by decide +kernel) (pa_cons
        (pe_lc (own := [("_law_table", 2), ("_law_columns_here", 3)]) (g := gTup K 2 (gCons (gName 2) (gCons (gName 3) gNil))) (tt := tYes) rfl scQuest.nd (pi_list (pv 0))
          (blkOk_by (own := [("_law_table", 2), ("_law_columns_here", 3)]) (N := nQuest) (sc := defScope sQuest) (by decide +kernel))
          (fun _ _ _ _ _ => pg_tup rfl (pgs_cons (pg_name (i := 2) scQuest.nd rfl (Or.inl rfl)) (pgs_cons (pg_name (i := 3) scQuest.nd rfl (Or.inl rfl)) pgs_nil))) (fun _ _ _ _ _ => pts_nil)
          (fun _ _ _ _ _ => pe_tup (pa_cons (pv 2) (pa_cons (pe_callTy (T := "tuple") (r := rTupX K) (cr_tupX rfl) (by rfl) T.tup (by decide +kernel) (pa_cons (pv 3) pa_nil)) pa_nil)))) pa_nil)) pa_nil))
        (pps_cons pe_str (pe_callTy call_list_of (by rfl) T.list (by decide +kernel) (pa_cons (pv 1) pa_nil)) pps_nil)) rfl rfl (by decide) (by decide))), ?_⟩
    intro p hp
    have hap : a ≠ p := ne_of_none ha hp
    have s0 : Same H (upd H p (.dK [])) := K0.Same.new _ hp
    have hin0 := hin
    refine ⟨_, rfl, a, rfl, ⟨_, SqL.of (s0 _ _ ha)⟩, fun D hD => lc_made (walk_list (K := K) (a := a) (xs := ts.map V.ref)) (fun i y H' => ∃ t t2 c, y = V.ref t ∧ cs[i]? = some c ∧ t ≠ D ∧ t2 ≠ D ∧ H' t = some (.tup [.str c.1, .ref t2]) ∧ H' t2 = some (.tup (c.2.map V.str)))
      (fun i y H1 H2 ⟨t, t2, c, e1, e2, n1, n2, h1, h2⟩ kd => ⟨t, t2, c, e1, e2, n1, n2, kd _ _ n1 h1, kd _ _ n2 h2⟩) (by rw [List.length_map, sizeLine_eq]; omega) hD (fun H1 s1 => SqL.of (s1 _ _ (s0 _ _ ha))) ?_ gPair_mono ?_⟩
    · rintro i x H1 H2 hi s1 ⟨acc, hacc⟩ ⟨rfl, hxi⟩
      have hi' : i < ts.length := by rwa [List.length_map] at hi
      obtain ⟨c, hc, x0, h1, h2⟩ := hin.at_ i hi'
      have ex : x = V.ref ts[i] := by
        rw [List.getElem?_map, List.getElem?_eq_getElem hi'] at hxi
        exact (Option.some.inj hxi).symm
      subst ex
      have g1 := s1 _ _ (s0 _ _ h1)
      refine ⟨ts[i], _, rfl, SqT.of g1, rfl, _, _, rfl, _, _, rfl, rfl, rfl, fun Q2 hQ2 => ⟨_, rfl, _, rfl, ?_⟩⟩
      rcases h2 with ⟨z, rfl, e, hz⟩ | ⟨t2, rfl, h2⟩
      · refine .inl ⟨z, rfl, hz, fun t2 ht2 => ⟨by show 2 ≤ sizeLine; decide, fun t ht => ?_⟩⟩
        have n2 : t2 ≠ D := fun z => by rw [z, hacc] at ht2; cases ht2
        have ht' : H2 t = none := by
          by_cases q : t = t2
          · rw [q]; exact ht2
          · rw [upd_ne q] at ht; exact ht
        have n1 : t ≠ D := fun z => by rw [z, hacc] at ht'; cases ht'
        have n3 : t2 ≠ t := fun q => by rw [q, upd_same] at ht; cases ht
        refine hQ2 _ _ (K0.Same.tr (K0.Same.new _ ht2) (K0.Same.new _ ht)) ⟨t, t2, c, rfl, hc, n1, n2, upd_same, ?_⟩
        rw [upd_ne n3, upd_same, e]
      · have g2 := s1 _ _ (s0 _ _ h2)
        refine .inr ⟨t2, _, rfl, SqT.of g2, by show 2 ≤ sizeLine; decide, fun t ht => ?_⟩
        have n1 : t ≠ D := fun z => by rw [z, hacc] at ht; cases ht
        have n2 : t2 ≠ D := fun z => by
          have q := s0 _ _ h2
          rw [z, hD] at q
          cases q
        exact hQ2 _ _ (K0.Same.new _ ht) ⟨t, t2, c, rfl, hc, n1, n2, upd_same, K0.Same.new _ ht _ _ g2⟩
    · rintro H1 acc s1 hD1 hlen hR
      rw [List.length_map] at hlen
      have lc : ts.length = cs.length := hin.len
      obtain ⟨N, rfl, n2, n3⟩ := rows_made acc cs (hlen.trans lc) hR
      rw [List.length_map] at hlen
      refine ⟨D, N, rfl, SqL.of hD1, fun m hm => ?_, by omega, fun S M hS sub all nd => ?_⟩
      · obtain ⟨c, e, h⟩ := n3 m hm
        have z := h.kr (K := K)
        rw [← e] at z
        exact z
      have sS : Same H1 (upd H1 S (SetN w S M)) := K0.Same.new _ hS
      have mem : ∀ m ∈ M, ∃ c, m.2 = keyC c ∧ ClA H1 m.1 c := fun m hm => n3 m (sub m hm)
      refine ⟨S, M, 2, rfl, upd_same, fun m hm => ?_, lined_cls fun m hm => ?_, fun M' q pm pw hq => ?_⟩
      · obtain ⟨c, e, h⟩ := mem m hm
        have z := (h.same sS).kr (K := K)
        rw [← e] at z
        exact z
      · obtain ⟨c, e, _⟩ := mem m hm
        exact ⟨c, e⟩
      have sQ : Same (upd H1 S (SetN w S M)) (upd (upd H1 S (SetN w S M)) q (.lst (M'.map fun m => V.ref m.1))) := K0.Same.new _ hq
      obtain ⟨cs', r1, r2⟩ := rows_cls (H := H1) M' fun m hm => mem m (pm.mem_iff.mp hm)
      have hb1 : upd (upd H1 S (SetN w S M)) q (.lst (M'.map fun m => V.ref m.1)) b = some (.lst (as.map V.str)) := sQ _ _ (sS _ _ (s1 _ _ (s0 _ _ hb)))
      refine ⟨_, rfl, b, _, rfl, .inl (SqL.of hb1), fun la hla => ?_⟩
      have sL := K0.Same.new (.lst (as.map V.str)) hla
      have sAll := K0.Same.tr s1 (K0.Same.tr sS (K0.Same.tr sQ sL))
      refine ⟨sAll _ _ upd_same, [(Sum.inr "clauses", .ref q), (Sum.inr "asked", .ref la)], rfl, by show 2 ≤ 15; decide, ?_⟩
      have qp : q ≠ p := fun z => by
        have y := sS _ _ (s1 _ _ (upd_same (H := H) (a := p) (o := .dK [])))
        rw [← z] at y
        have e : some (HO.dK []) = none := y.symm.trans hq
        cases e
      have lp : la ≠ p := fun z => by
        have y := sQ _ _ (sS _ _ (s1 _ _ (upd_same (H := H) (a := p) (o := .dK []))))
        rw [← z] at y
        have e : some (HO.dK []) = none := y.symm.trans hla
        cases e
      refine k cs' _ p (fun c o e => ?_) hp ⟨q, la, M'.map (·.1), upd_same, ?_, ?_, ?_⟩ ?_ fun c => ?_
      · rw [upd_ne (ne_of_none e hp)]
        exact sAll _ _ (s0 _ _ e)
      · rw [upd_ne qp, List.map_map]
        exact sL _ _ upd_same
      · refine (r1.same (K0.Same.tr sS (K0.Same.tr sQ sL))).off fun xs z => ?_
        rw [sAll _ _ upd_same] at z
        cases z
      · rw [upd_ne lp, upd_same]
      · refine pair_map ?_
        rw [r2]
        exact List.pairwise_map.mpr pw
      · have key : keyC c ∈ cs'.map keyC ↔ keyC c ∈ cs.map keyC := by
          rw [r2, ← n2, (pm.map (·.2)).mem_iff]
          constructor
          · intro z
            obtain ⟨m, hm, e⟩ := List.mem_map.mp z
            exact List.mem_map.mpr ⟨m, sub m hm, e⟩
          · intro z
            obtain ⟨m, hm, e⟩ := List.mem_map.mp z
            rw [← e]
            exact all m hm
        have inj : ∀ l : List CL, c ∈ l ↔ keyC c ∈ l.map keyC := fun l => ⟨fun z => List.mem_map.mpr ⟨c, z, rfl⟩, fun z => by
          obtain ⟨c', hc', e⟩ := List.mem_map.mp z
          rw [← keyC_inj e]
          exact hc'⟩
        rw [inj cs', inj cs]
        exact key

end
end K0

/-! ## Q2 -/
set_option maxRecDepth 100000
set_option maxHeartbeats 2000000
namespace K0
open PySem L2 NS
/-! ### names, columns, asking -/
def names16 : List Str := ["a", "b", "c", "d", "e", "f", "g", "h", "x", "y", "clause", "asked", "row", "zz", "zzzzzzzz", "ab"]
abbrev sNames : Stmt := top 38
abbrev sCols : Stmt := top 36
abbrev sAsking : Stmt := top 39
def spNames : Sp := fun vs H Q _ => vs = [] ∧ ∀ l, H l = none → Q (.ref l) (upd H l (.lst (names16.map V.str)))
def colsIn (cs : List CL) : List Str := cs.flatMap (·.2)
/-- these texts, ascending, each once -/
def IsCols (xs ns : List Str) : Prop := PyProof.Rows.sortedS ns = true ∧ ns.Nodup ∧ ∀ k, k ∈ ns ↔ k ∈ xs
def spCols : Sp := fun vs H Q _ => ∃ (d : Addr) (q : PQ), vs = [.ref d] ∧ PlA H d q ∧ (colsIn q.cls).length < 64 ∧ ∀ ns l H', IsCols (colsIn q.cls) ns → Same H H' → H l = none → H' l = some (.lst (ns.map V.str)) → Q (.ref l) H'
theorem Cls.at_ {H : Hp} : ∀ {ts : List Addr} {cs : List CL}, Cls H ts cs → ∀ (i : Nat) (h : i < ts.length), ∃ c, cs[i]? = some c ∧ ClA H ts[i] c
  | _, _, .nil, i, h => absurd h (Nat.not_lt_zero _)
  | _, _, .cons (c := c) a r, i, h => by
    cases i with
    | zero => exact ⟨c, rfl, a⟩
    | succ i => exact r.at_ i (Nat.lt_of_succ_lt_succ h)
theorem colsIn_take : ∀ (cs : List CL) (i : Nat) (c : CL), cs[i]? = some c → colsIn (cs.take (i + 1)) = colsIn (cs.take i) ++ c.2
  | [], _, _, h => by cases h
  | x :: cs, 0, c, h => by
    obtain rfl : x = c := Option.some.inj h
    simp [colsIn]
  | x :: cs, i + 1, c, h => by
    have ih := colsIn_take cs i c h
    unfold colsIn at ih ⊢
    rw [List.take_succ_cons, List.take_succ_cons, List.flatMap_cons, List.flatMap_cons, ih, List.append_assoc]
theorem colsIn_le : ∀ (cs : List CL) (i : Nat), (colsIn (cs.take i)).length ≤ (colsIn cs).length
  | [], _ => by simp [colsIn]
  | x :: cs, 0 => by simp [colsIn]
  | x :: cs, i + 1 => by
    have ih := colsIn_le cs i
    unfold colsIn at ih ⊢
    rw [List.take_succ_cons, List.flatMap_cons, List.flatMap_cons, List.length_append, List.length_append]
    omega
theorem strs_map_perm : ∀ {ys : List V} {ns : List Str}, ys.Perm (ns.map V.str) → ∃ zs : List Str, ys = zs.map V.str ∧ zs.Perm ns := by
  intro ys
  induction ys with
  | nil =>
    intro ns h
    have e : ns = [] := List.map_eq_nil_iff.mp h.symm.eq_nil
    exact ⟨[], rfl, by rw [e]⟩
  | cons y ys ih =>
    intro ns h
    obtain ⟨z, hz, rfl⟩ := List.mem_map.mp (h.mem_iff.mp List.mem_cons_self)
    obtain ⟨l1, l2, rfl⟩ := List.append_of_mem hz
    have h2 : (V.str z :: ys).Perm (V.str z :: (l1 ++ l2).map V.str) := h.trans (by rw [List.map_append, List.map_cons, List.map_append]; exact List.perm_middle)
    obtain ⟨zs, rfl, pz⟩ := ih (h2.cons_inv)
    exact ⟨z :: zs, rfl, (pz.cons z).trans List.perm_middle.symm⟩
theorem nodup_le {α : Type} [DecidableEq α] : ∀ (l m : List α), l.Nodup → (∀ x ∈ l, x ∈ m) → l.length ≤ m.length
  | [], _, _, _ => Nat.zero_le _
  | x :: l, m, n, h => by
    obtain ⟨n1, n2⟩ := List.nodup_cons.mp n
    have hx := h x List.mem_cons_self
    have r := nodup_le l (m.erase x) n2 fun y hy => (List.mem_erase_of_ne (fun e => n1 (by rw [← e]; exact hy))).mpr (h y (List.mem_cons_of_mem _ hy))
    rw [List.length_erase_of_mem hx] at r
    have : 0 < m.length := List.length_pos_of_mem hx
    rw [List.length_cons]
    omega
theorem colsIn_few {cs : List CL} {k : Nat} (h : ∀ c ∈ cs, c.2.length ≤ k) : (colsIn cs).length ≤ cs.length * k := by
  induction cs with
  | nil => simp [colsIn]
  | cons c cs ih =>
    have r := ih fun u hu => h u (List.mem_cons_of_mem _ hu)
    have z := h c List.mem_cons_self
    unfold colsIn at r ⊢
    rw [List.flatMap_cons, List.length_append, List.length_cons, Nat.add_mul, Nat.one_mul]
    omega
theorem pair_nodup {cs : List CL} (h : cs.Pairwise fun c c' => ltC c c' = true) : cs.Nodup := h.imp fun {a b} r e => by
  rw [e, ltC_irr] at r
  cases r
/-- a plain question stays where the dice are rolled -/
theorem dice_ne {H : Hp} {p a : Addr} {xs : List V} (hp : DiceAt H p) (ha : H a = some (.lst xs)) (h : ∀ i : Int, V.int i ∉ xs) : a ≠ p := fun e => by
  obtain ⟨x, y, z, q⟩ := hp
  rw [← e, ha] at q
  injection q with q
  injection q with q
  exact h x (by rw [q]; exact List.mem_cons_self)
theorem ClA.kd {H H' : Hp} {t p : Addr} {c : CL} (h : ClA H t c) (hp : DiceAt H p) (k : Kd p H H') : ClA H' t c := by
  obtain ⟨t2, h1, h2⟩ := h
  obtain ⟨x, y, z, q⟩ := hp
  exact ⟨t2, k _ _ (fun e => by rw [e, q] at h1; cases h1) h1, k _ _ (fun e => by rw [e, q] at h2; cases h2) h2⟩
theorem Cls.kd {H H' : Hp} {p : Addr} (hp : DiceAt H p) (k : Kd p H H') : ∀ {ts : List Addr} {cs : List CL}, Cls H ts cs → Cls H' ts cs
  | _, _, .nil => .nil
  | _, _, .cons h r => .cons (h.kd hp k) (r.kd hp k)
theorem PlA.kd {H H' : Hp} {d p : Addr} {q : PQ} (h : PlA H d q) (hp : DiceAt H p) (k : Kd p H H') : PlA H' d q := by
  obtain ⟨lc, la, ts, h1, h2, h3, h4⟩ := h
  refine ⟨lc, la, ts, k _ _ (fun e => ?_) h1, k _ _ (dice_ne hp h2 fun i m => ?_) h2, h3.kd hp k, k _ _ (dice_ne hp h4 fun i m => ?_) h4⟩
  · obtain ⟨x, y, z, q⟩ := hp
    rw [e, q] at h1
    cases h1
  · obtain ⟨t, _, e⟩ := List.mem_map.mp m
    cases e
  · obtain ⟨t, _, e⟩ := List.mem_map.mp m
    cases e
theorem none_back {H H' : Hp} {m : Addr} (s : Same H H') (h : H' m = none) : H m = none := by
  cases e : H m with
  | none => rfl
  | some o =>
    rw [s _ _ e] at h
    cases h
theorem lt1 {u : Nat} (h : u + 64 < cLine) : u + 1 < cLine := by omega
structure TA (K : PySem.W.Frag) (mg : Str → Option Value) : Prop extends TQ K mg where
  len : mg "len" = none
section
variable {P : Program} {w : World} {K : PySem.W.Frag} {mg : Str → Option Value} {base : Heap}
theorem scNames : FnScope [] [] (defScope sNames) := ⟨rfl, rfl, rfl, by decide +kernel, rfl, by decide +kernel, by decide +kernel⟩
theorem ok_names {f : Addr} {fd : FuncData} (F : Fun K "_law_names" "_law_names" sNames f fd) : FnOk P w K mg base CX0 1 f fd [] spNames := by
  refine F.ok scNames (fun vs H Q E h => ?_) (fun cdv A outer s H vs Q E hr h => ?_)
  · obtain ⟨rfl, _⟩ := h
    rfl
  · obtain ⟨rfl, k⟩ := h
    refine ⟨_, pss_one (ps_ret (pe_lst (pa_cons pe_str (pa_cons pe_str (pa_cons pe_str (pa_cons pe_str (pa_cons pe_str (pa_cons pe_str (pa_cons pe_str (pa_cons pe_str (pa_cons pe_str (pa_cons pe_str (pa_cons pe_str (pa_cons pe_str (pa_cons pe_str (pa_cons pe_str (pa_cons pe_str (pa_cons pe_str pa_nil)))))))))))))))))), ?_⟩
    exact ⟨by show 16 ≤ sizeLine; decide, fun p hp => k p hp⟩
abbrev nCols : List Str := ["_law_plain", "_law_found", "_law_table", "_law_columns_here"]
theorem scCols : FnScope nCols ["_law_plain"] (defScope sCols) := ⟨rfl, rfl, rfl, by decide +kernel, rfl, by decide +kernel, by decide +kernel⟩
theorem ok_cols {f : Addr} {fd : FuncData} (F : Fun K "_law_columns" "_law_columns" sCols f fd) (T : TA K mg) : FnOk P w K mg base CX0 1 f fd ["_law_plain"] spCols := by
  refine F.ok scCols (fun vs H Q E h => ?_) (fun cdv A outer s H vs Q E hr h => ?_)
  · obtain ⟨d, q, rfl, _⟩ := h
    rfl
  · obtain ⟨d, q, rfl, hd, few, k⟩ := h
    refine ⟨_, pss_cons (ps_set (i := 1) scCols.nd rfl (Or.inl rfl) (pe_lst pa_nil))
      (pss_cons (ps_for PassesOwn.never rfl (pi_list (pe_dget (lt1 hr.units) (pv 0) pe_str (fun _ _ => rfl))) (pg_tup rfl (pgs_cons (pg_name (i := 2) scCols.nd rfl (Or.inl rfl)) (pgs_cons (pg_name (i := 3) scCols.nd rfl (Or.inl rfl)) pgs_nil)))
        (pss_one (ps_expr (pe_bm PySem.F.plainAttrs_list PySem.F.slot_list_extend PySem.F.type_list_extend mt_extend (pv 1) (pa_cons (pe_callTy call_list_of (by rfl) T.list (by decide +kernel) (pa_cons (pv 3) pa_nil)) pa_nil)))))
      (pss_one (ps_ret (pe_callB (cr_sortTx rfl) (by rfl) T.srt (by decide +kernel) (pa_cons (pe_callTy (cr_setTx rfl) (by rfl) T.set (by decide +kernel) (pa_cons (pv 1) pa_nil)) pa_nil))))), ?_⟩
    obtain ⟨lc, la, ts, h1, h2, h3, h4⟩ := hd
    refine ⟨by show 0 ≤ sizeLine; decide, fun l hl => ?_⟩
    have s0 : Same H (upd H l (.lst [])) := K0.Same.new _ hl
    refine ⟨_, rfl, d, V.ref lc, rfl, DGet.k (k := Sum.inr "clauses") (s0 _ _ h1), lc, rfl, ⟨_, SqL.of (s0 _ _ h2)⟩,
      for_list (K := K) (a := lc) (xs := ts.map V.ref) (fun i σ H' => (∃ u v, σ = [some (.ref d), some (.ref l), u, v]) ∧ Same H H' ∧ H' l = some (.lst ((colsIn (q.cls.take i)).map V.str)))
        ⟨⟨none, none, rfl⟩, s0, upd_same⟩ (fun i σ H' _ ⟨_, s1, _⟩ => SqL.of (s1 _ _ h2)) ?_ ?_⟩
    · rintro i x σ H1 hx ⟨⟨u, v, rfl⟩, s1, hq⟩
      rw [List.getElem?_map] at hx
      obtain ⟨t, ht, rfl⟩ := Option.map_eq_some_iff.mp hx
      obtain ⟨hi, et⟩ := List.getElem?_eq_some_iff.mp ht
      obtain ⟨c, hc, hA⟩ := h3.at_ i hi
      rw [et] at hA
      obtain ⟨t2, g1, g2⟩ := hA
      refine ⟨t, _, rfl, SqT.of (s1 _ _ g1), rfl, _, _, rfl, _, _, rfl, rfl, ?_⟩
      refine ⟨_, rfl, .inl ⟨rfl, _, SqL.of hq⟩, _, rfl, t2, _, rfl, .inr (SqT.of (s1 _ _ g2)), fun m hm => ?_⟩
      have ml : l ≠ m := ne_of_none hq hm
      have bound := colsIn_le q.cls (i + 1)
      rw [colsIn_take _ _ _ hc, List.length_append] at bound
      refine ⟨l, m, _, _, rfl, rfl, by rw [upd_ne ml]; exact hq, upd_same, ?_, ⟨_, _, rfl⟩, fun b o e => ?_, ?_⟩
      · rw [List.length_map, List.length_map, sizeLine_eq]
        omega
      · rw [upd_ne (ne_of_none e hl), upd_ne (ne_of_none (s1 _ _ e) hm)]
        exact s1 _ _ e
      · rw [upd_same, colsIn_take _ _ _ hc, List.map_append]
    · rintro σ H1 ⟨⟨u, v, rfl⟩, s1, hq⟩
      rw [List.length_map, h3.len, List.take_length] at hq
      refine ⟨_, rfl, l, _, rfl, .inr (SqL.of hq), by omega, fun p n hn hp => ⟨p, _, n, rfl, upd_same, by omega, fun ns m g1 g2 g3 g4 hm => ?_⟩⟩
      have sp := K0.Same.new (SetTO w p (fun j => decide (j ∈ colsIn q.cls)) n) hp
      refine k ns m _ ⟨g1, g2, fun j => by rw [g3, decide_eq_true_eq]⟩ (K0.Same.tr s1 (K0.Same.tr sp (K0.Same.new _ hm))) ?_ upd_same
      exact none_back s1 (none_back sp hm)
end
end K0

/-! ## Q3 -/
set_option maxRecDepth 100000
set_option maxHeartbeats 2000000
namespace K0
open PySem L2 NS
/-- a def of the text by its name -/
structure Gl (K : PySem.W.Frag) (mg : Str → Option Value) (n : Str) (f : Addr) : Prop where
  g : mg n = some (.ref f)
  k : PySem.W.keepIn K (.ref f) = true
def spAsking : Sp := fun vs H Q _ => ∃ (p a : Addr) (ts : List Addr) (cs : List CL) (sh : Int), vs = [.ref p, .ref a, .int sh] ∧ DiceAt H p ∧ H a = some (.lst (ts.map V.ref)) ∧ Ins H ts cs ∧ ts.length ≤ 7 ∧ (∀ c ∈ cs, c.2.length ≤ 8) ∧
  ∀ (cs' : List CL) (as : List Str) (H' : Hp) (d : Addr), Kd p H H' → DiceAt H' p → H d = none → PlA H' d ⟨cs', as⟩ → cs'.Pairwise (fun c c' => ltC c c' = true) → (∀ c, c ∈ cs' ↔ c ∈ cs) → as.Nodup → (∀ k ∈ as, k ∈ colsIn cs') → Q (.ref d) H'
theorem InA.same' {H H' : Hp} {t : Addr} {c : CL} (h : InA H t c) (s : Same H H') : InA H' t c := h.same s
theorem Ins.same {H H' : Hp} (s : Same H H') : ∀ {ts : List Addr} {cs : List CL}, Ins H ts cs → Ins H' ts cs
  | _, _, .nil => .nil
  | _, _, .cons h r => .cons (h.same s) (r.same s)
theorem DiceAt.same {H H' : Hp} {p : Addr} (h : DiceAt H p) (s : Same H H') : DiceAt H' p := by
  obtain ⟨x, y, z, e⟩ := h
  exact ⟨x, y, z, s _ _ e⟩
theorem DiceAt.up {H : Hp} {p a : Addr} {o : HO} (h : DiceAt H p) (n : p ≠ a) : DiceAt (upd H a o) p := by
  obtain ⟨x, y, z, e⟩ := h
  exact ⟨x, y, z, by rw [upd_ne n]; exact e⟩
theorem cutV_take (xs : List Str) (r : Int) (h0 : 0 ≤ r) (h1 : r ≤ xs.length) : cutV (xs.map V.str) none (some r) = (xs.take r.toNat).map V.str := by
  unfold cutV
  obtain ⟨n, rfl⟩ := Int.eq_ofNat_of_zero_le h0
  rw [HT.sIx_none]
  have e : HT.sIx (xs.map V.str).length (xs.map V.str).length (some (n : Int)) = n := by
    have z := HT.sIx_nat (xs.map V.str).length (xs.map V.str).length n
    rw [List.length_map] at z ⊢
    refine z.trans ?_
    have : (n : Int) ≤ xs.length := h1
    omega
  rw [List.drop_zero, Nat.sub_zero]
  have e2 : ((n : Int).toNat) = n := rfl
  rw [e2, List.map_take]
  exact congrArg (fun k => (xs.map V.str).take k) e
/-- the asked columns are stored -/
theorem PlA.ask {H : Hp} {d l : Addr} {cs : List CL} {as bs : List Str} (h : PlA H d ⟨cs, as⟩) (hl : H l = some (.lst (bs.map V.str))) : ∃ kvs, H d = some (.dK kvs) ∧ kvs.length < sizeLine ∧ PlA (upd H d (.dK (putK kvs (Sum.inr "asked") (.ref l)))) d ⟨cs, bs⟩ := by
  obtain ⟨lc, la, ts, h1, h2, h3, h4⟩ := h
  refine ⟨_, h1, by show 2 < sizeLine; rw [sizeLine_eq]; decide, lc, l, ts, upd_same, ?_, h3.off fun xs z => ?_, ?_⟩
  · rw [upd_ne fun z => by rw [z, h1] at h2; cases h2]
    exact h2
  · rw [h1] at z
    cases z
  · rw [upd_ne fun z => by rw [z, h1] at hl; cases hl]
    exact hl
section
variable {P : Program} {w : World} {K : PySem.W.Frag} {mg : Str → Option Value} {base : Heap} {fQ fC fM fR : Addr} {fdQ fdC fdM fdR : FuncData}
abbrev nAsking : List Str := ["_law_dice_here", "_law_clauses", "_law_share", "_law_plain", "_law_some"]
theorem scAsking : FnScope nAsking ["_law_dice_here", "_law_clauses", "_law_share"] (defScope sAsking) := ⟨rfl, rfl, rfl, by decide +kernel, rfl, by decide +kernel, by decide +kernel⟩
theorem ok_asking {f : Addr} {fd : FuncData} (F : Fun K "_law_asking" "_law_asking" sAsking f fd) (T : TA K mg)
    (eQ : Gl K mg "_law_question" fQ) (GQ : FnOk P w K mg base CX0 1 fQ fdQ ["_law_clauses", "_law_asked"] spQuest) (bQ : Binds K fdQ ["_law_clauses", "_law_asked"] [])
    (eC : Gl K mg "_law_columns" fC) (GC : FnOk P w K mg base CX0 1 fC fdC ["_law_plain"] spCols) (bC : Binds K fdC ["_law_plain"] [])
    (eM : Gl K mg "_law_mixed" fM) (GM : FnOk P w K mg base CX0 2 fM fdM ["_law_dice_here", "_law_items"] spMixed) (bM : Binds K fdM ["_law_dice_here", "_law_items"] [])
    (eR : Gl K mg "_law_roll" fR) (GR : FnOk P w K mg base CX0 1 fR fdR ["_law_dice_here", "_law_total"] spRoll) (bR : Binds K fdR ["_law_dice_here", "_law_total"] []) :
    FnOk P w K mg base CX0 3 f fd ["_law_dice_here", "_law_clauses", "_law_share"] spAsking := by
  refine F.ok scAsking (fun vs H Q E h => ?_) (fun cdv A outer s H vs Q E hr h => ?_)
  · obtain ⟨p, a, ts, cs, sh, rfl, _⟩ := h
    rfl
  · obtain ⟨p, a, ts, cs, sh, rfl, hp, ha, hin, few, wide, k⟩ := h
    refine ⟨_, pss_cons (ps_set (i := 3) scAsking.nd rfl (Or.inl rfl) (pe_call GQ (hr.mono (by decide)) (by rfl) eQ.g eQ.k bQ .nil pass0 (pa_cons (pv 1) (pa_cons (pe_lst pa_nil) pa_nil))))
      (pss_cons (ps_if (pt_cmpR op_gt (pv 2) pe_int (nomark _))
        (pss_cons (ps_set (i := 4) scAsking.nd rfl (Or.inl rfl) (pe_call GM hr (by rfl) eM.g eM.k bM .nil pass0 (pa_cons (pv 0) (pa_cons (pe_call GC (hr.mono (by decide)) (by rfl) eC.g eC.k bC .nil pass0 (pa_cons (pv 3) pa_nil)) pa_nil))))
        (pss_one (ps_dput (lt1 hr.units) (pv 3) pe_str (pe_ifExp (pt_cmpR op_gt (pv 2) pe_int (nomark _)) (pv 4)
          (pe_slice sl_list (pv 4) po_none (po_some (pe_call GR (hr.mono (by decide)) (by rfl) eR.g eR.k bR .nil pass0 (pa_cons (pv 0) (pa_cons (pe_op op_add (pe_callB call_len_seq (by rfl) T.len PySem.boot_len (pa_cons (pv 4) pa_nil)) pe_int) pa_nil)))))) (by rfl)))) pss_nil)
      (pss_one (ps_ret (pv 3)))), ?_⟩
    refine ⟨_, rfl, by show 0 ≤ sizeLine; decide, fun b hb => ?_⟩
    have s0 : Same H (upd H b (.lst [])) := K0.Same.new _ hb
    refine ⟨a, b, ts, cs, [], rfl, s0 _ _ ha, hin.same s0, upd_same, by omega, fun cs' H1 d s1 hd pl pw mem => ?_⟩
    have s01 := K0.Same.tr s0 s1
    have hd0 : H d = none := none_back s0 hd
    have hp1 : DiceAt H1 p := hp.same s01
    have len' : cs'.length ≤ 7 := Nat.le_trans (nodup_le cs' cs (pair_nodup pw) fun c hc => (mem c).mp hc) (by rw [← hin.len]; exact few)
    have cfew : (colsIn cs').length < 64 := Nat.lt_of_le_of_lt (colsIn_few (k := 8) fun c hc => wide c ((mem c).mp hc)) (by omega)
    refine ⟨_, rfl, _, _, rfl, rfl, _, rfl, ?_⟩
    by_cases c : (0 : Int) < sh
    · refine if_pos_of (decide_eq_true c) ⟨_, rfl, _, rfl, d, _, rfl, pl, cfew, fun ns l H2 ic s2 hl el => ?_⟩
      have hp2 := hp1.same s2
      have lp : l ≠ p := dice_ne hp2 el fun i m => by
        obtain ⟨t, _, e⟩ := List.mem_map.mp m
        cases e
      have nlen : ns.length ≤ 64 := Nat.le_trans (nodup_le ns _ ic.2.1 fun z hz => (ic.2.2 z).mp hz) (Nat.le_of_lt cfew)
      refine ⟨p, l, _, rfl, hp2, lp, el, by rw [List.length_map]; omega, fun ys m H3 pm hm em kd3 hp3 => ?_⟩
      obtain ⟨zs, rfl, pz⟩ := strs_map_perm pm
      have pl3 : PlA H3 d ⟨cs', []⟩ := (pl.same s2).kd hp2 kd3
      have znd : zs.Nodup := pz.nodup_iff.mpr ic.2.1
      have zin : ∀ k ∈ zs, k ∈ colsIn cs' := fun k hk => (ic.2.2 k).mp (pz.mem_iff.mp hk)
      refine ⟨_, rfl, _, _, rfl, rfl, _, rfl, ?_⟩
      have dp : d ≠ p := fun e => by
        obtain ⟨x, y, z, q⟩ := hp
        rw [← e, hd0] at q
        cases q
      have fin : ∀ (as : List Str) (l2 : Addr) (H4 : Hp), Kd p H3 H4 → DiceAt H4 p → H4 l2 = some (.lst (as.map V.str)) → as.Nodup → (∀ k ∈ as, k ∈ colsIn cs') → PlA H4 d ⟨cs', []⟩ → ∃ kvs, H4 d = some (.dK kvs) ∧ kvs.length < sizeLine ∧ Q (.ref d) (upd H4 d (.dK (putK kvs (Sum.inr "asked") (.ref l2)))) := by
        intro as l2 H4 kd4 hp4 e4 nd4 in4 pl4
        obtain ⟨kvs, g1, g2, g3⟩ := pl4.ask e4
        refine ⟨kvs, g1, g2, k cs' as _ d (fun b' o nb e => ?_) (hp4.up dp.symm) hd0 g3 pw mem nd4 in4⟩
        rw [upd_ne (ne_of_none e hd0)]
        exact kd4 _ _ nb (kd3 _ _ nb (s2 _ _ (s01 _ _ e)))
      by_cases c2 : (1 : Int) < sh
      · obtain ⟨kvs, g1, g2, g3⟩ := fin zs m H3 Kd.rfl' hp3 em znd zin pl3
        exact if_pos_of (decide_eq_true c2) ⟨_, rfl, _, rfl, d, _, rfl, DPut.k (k := Sum.inr "asked") g1 g2, _, rfl, g3⟩
      · refine if_neg_of (decide_eq_false c2) ⟨_, rfl, _, rfl, _, rfl, m, _, rfl, .inl (SqL.of em), _, _, rfl, rfl, p, _, rfl, hp3, by rw [List.length_map]; omega, by rw [List.length_map, pz.length_eq]; omega, fun r H4 r0 r1 kd4 hp4 => ?_⟩
        have mp : m ≠ p := dice_ne hp3 em fun i mm => by
          obtain ⟨t, _, e⟩ := List.mem_map.mp mm
          cases e
        have em4 := kd4 _ _ mp em
        have pl4 := pl3.kd hp3 kd4
        refine ⟨r, rfl, m, _, rfl, SqL.of em4, fun l2 hl2 => ?_⟩
        have s5 := K0.Same.new (.lst (cutV (zs.map V.str) none (some r))) hl2
        rw [List.length_map] at r1
        have ecut := cutV_take zs r r0 (by omega)
        obtain ⟨kvs, g1, g2, g3⟩ := fin (zs.take r.toNat) l2 _ (Kd.tr kd4 (Kd.of s5)) (hp4.same s5) (by rw [upd_same, ecut]) (List.Nodup.sublist (List.take_sublist _ _) znd) (fun k hk => zin k (List.mem_of_mem_take hk)) (pl4.same s5)
        exact ⟨_, rfl, d, _, rfl, DPut.k (k := Sum.inr "asked") g1 g2, _, rfl, g3⟩
    · exact if_neg_of (decide_eq_false c) ⟨_, rfl, k cs' [] H1 d (Kd.of s01) hp1 hd0 pl pw mem .nil (fun z hz => by cases hz)⟩
end
end K0

/-! ## Q4 -/
set_option maxRecDepth 100000
set_option maxHeartbeats 2000000
namespace K0
open PySem L2 NS
/-! ### what is drawn -/
abbrev tabLine : Str := "rstuvwpq"
def tabs8 : List Str := lettersOf tabLine
structure GoodQ (cs : List CL) : Prop where
  some_ : cs ≠ []
  few : cs.length ≤ 7
  tab : ∀ c ∈ cs, c.1 ∈ tabs8
  wide : ∀ c ∈ cs, 0 < c.2.length ∧ c.2.length ≤ 8
  same : ∀ c ∈ cs, ∀ c' ∈ cs, c.1 = c'.1 → c.2.length = c'.2.length
  cols : ∃ pool : List Str, pool.length ≤ 8 ∧ (∀ k ∈ pool, k ∈ names16) ∧ ∀ c ∈ cs, ∀ k ∈ c.2, k ∈ pool
theorem GoodQ.of_mem {cs cs' : List CL} (g : GoodQ cs) (n : cs'.Nodup) (m : ∀ c, c ∈ cs' ↔ c ∈ cs) : GoodQ cs' where
  some_ e := g.some_ (List.eq_nil_iff_forall_not_mem.mpr fun c hc => by
    have z := (m c).mpr hc
    rw [e] at z
    cases z)
  few := Nat.le_trans (nodup_le cs' cs n fun c hc => (m c).mp hc) g.few
  tab c hc := g.tab c ((m c).mp hc)
  wide c hc := g.wide c ((m c).mp hc)
  same c hc c' hc' := g.same c ((m c).mp hc) c' ((m c').mp hc')
  cols := by
    obtain ⟨pool, p1, p2, p3⟩ := g.cols
    exact ⟨pool, p1, p2, fun c hc => p3 c ((m c).mp hc)⟩
structure GoodP (q : PQ) : Prop where
  cls : GoodQ q.cls
  up : q.cls.Pairwise fun c c' => ltC c c' = true
  nd : q.asked.Nodup
  ask : ∀ k ∈ q.asked, k ∈ colsIn q.cls
/-- any good plain question may come -/
def GiveQ (H : Hp) (p : Addr) (Q : VK) : Prop := ∀ (q : PQ) (H' : Hp) (d : Addr), GoodP q → Kd p H H' → DiceAt H' p → H d = none → PlA H' d q → Q (.ref d) H'
theorem none_kd {H H' : Hp} {p m : Addr} (hp : DiceAt H p) (hp' : DiceAt H' p) (k : Kd p H H') (h : H' m = none) : H m = none := by
  cases e : H m with
  | none => rfl
  | some o =>
    have n : m ≠ p := fun z => by
      obtain ⟨x, y, w, q⟩ := hp'
      rw [z, q] at h
      cases h
    rw [k _ _ n e] at h
    cases h
/-- a drawn list of clauses leads to a good question -/
theorem ask_good {H0 H : Hp} {p a : Addr} {ts : List Addr} {cs : List CL} {sh : Int} {Q : VK} {E : XK} (hp0 : DiceAt H0 p) (kd : Kd p H0 H) (hp : DiceAt H p) (ha : H a = some (.lst (ts.map V.ref))) (hin : Ins H ts cs) (g : GoodQ cs) (k : GiveQ H0 p Q) : spAsking [.ref p, .ref a, .int sh] H Q E :=
  ⟨p, a, ts, cs, sh, rfl, hp, ha, hin, by rw [hin.len]; exact g.few, fun c hc => (g.wide c hc).2, fun cs' as H' d kd' hp' hd pl pw mem nd hin' =>
    k ⟨cs', as⟩ H' d ⟨g.of_mem (pair_nodup pw) mem, pw, nd, hin'⟩ (kd.tr kd') hp' (none_kd hp0 hp kd hd) pl⟩
def spDrawn : Sp := fun vs H Q _ => ∃ (p : Addr) (most width : Int) (b : Bool), vs = [.ref p, .int most, .int width, .bl b] ∧ DiceAt H p ∧ 1 ≤ most ∧ most ≤ 7 ∧ 1 ≤ width ∧ width ≤ 8 ∧ GiveQ H p Q
theorem tab_nodup : tabs8.Nodup := by decide +kernel
theorem tab_len : tabs8.length = 8 := by decide +kernel
theorem tab_at {j : Nat} (h : j < 8) : ∃ c, tabLine.cps.toList[j]? = some c ∧ tabs8[j]? = some (⟨#[c]⟩ : Str) := by
  have hl : j < tabLine.cps.toList.length := by
    have e : tabLine.cps.toList.length = 8 := by decide +kernel
    omega
  refine ⟨_, List.getElem?_eq_getElem hl, ?_⟩
  show (lettersOf tabLine)[j]? = _
  unfold lettersOf
  rw [List.getElem?_map, List.getElem?_eq_getElem hl]
  rfl
/-- a clause with a width told by its table -/
def WideAs (ws : List V) (pool : List Str) (c : CL) : Prop := ∃ (j : Nat) (n : Int), tabs8[j]? = some c.1 ∧ ws[j]? = some (.int n) ∧ (c.2.length : Int) = n ∧ 1 ≤ n ∧ n ≤ 3 ∧ ∀ k ∈ c.2, k ∈ pool
theorem good_wide {ws : List V} {pool : List Str} {cs : List CL} (h0 : cs ≠ []) (h1 : cs.length ≤ 7) (hp : pool.length ≤ 8) (hn : ∀ k ∈ pool, k ∈ names16) (h : ∀ c ∈ cs, WideAs ws pool c) : GoodQ cs where
  some_ := h0
  few := h1
  tab c hc := by
    obtain ⟨j, n, e, _⟩ := h c hc
    exact List.mem_of_getElem? e
  wide c hc := by
    obtain ⟨j, n, _, _, e, e1, e2, _⟩ := h c hc
    omega
  same c hc c' hc' e := by
    obtain ⟨j, n, a1, a2, a3, _⟩ := h c hc
    obtain ⟨j', n', b1, b2, b3, _⟩ := h c' hc'
    rw [← e] at b1
    have jj : j = j' := by
      obtain ⟨l1, q1⟩ := List.getElem?_eq_some_iff.mp a1
      obtain ⟨l2, q2⟩ := List.getElem?_eq_some_iff.mp b1
      exact (List.getElem_inj tab_nodup).mp (q1.trans q2.symm)
    subst jj
    rw [a2] at b2
    injection b2 with b2
    injection b2 with b2
    omega
  cols := ⟨pool, hp, hn, fun c hc => by
    obtain ⟨j, n, _, _, _, _, _, z⟩ := h c hc
    exact z⟩
theorem strs_in : ∀ (acc : List V) (pool : List Str), (∀ y ∈ acc, ∃ z, y = V.str z ∧ z ∈ pool) → ∃ ys : List Str, acc = ys.map V.str ∧ ∀ k ∈ ys, k ∈ pool
  | [], _, _ => ⟨[], rfl, fun k h => by cases h⟩
  | y :: acc, pool, h => by
    obtain ⟨z, rfl, hz⟩ := h y List.mem_cons_self
    obtain ⟨ys, rfl, r⟩ := strs_in acc pool fun u hu => h u (List.mem_cons_of_mem _ hu)
    refine ⟨z :: ys, rfl, fun k hk => ?_⟩
    rcases List.mem_cons.mp hk with e | e
    · rw [e]
      exact hz
    · exact r k e
theorem Cls.snoc {H : Hp} {t : Addr} {c : CL} (h : ClA H t c) : ∀ {ts : List Addr} {cs : List CL}, Cls H ts cs → Cls H (ts ++ [t]) (cs ++ [c])
  | _, _, .nil => .cons h .nil
  | _, _, .cons g r => .cons g (r.snoc h)
theorem no_int (xs : List Str) : ∀ i : Int, V.int i ∉ xs.map V.str := fun i m => by
  obtain ⟨t, _, e⟩ := List.mem_map.mp m
  cases e
theorem no_intR (xs : List Addr) : ∀ i : Int, V.int i ∉ xs.map V.ref := fun i m => by
  obtain ⟨t, _, e⟩ := List.mem_map.mp m
  cases e
theorem if_tab {b : Bool} {Q : VK} {σ : L2.St} {H : Hp} {p : Addr} {i : Int} {E : XK} {t0 t7 : TE} (h7 : ∀ Q : VK, Q (.int i) H → t7 σ H Q) (h0 : ∀ Q : VK, Q (.ref p) H → t0 σ H Q) (hp : DiceAt H p) (i0 : 0 ≤ i) (i1 : i < 8)
    (all : ∀ (j : Int) (H8 : Hp), 0 ≤ j → j < 8 → Kd p H H8 → DiceAt H8 p → Q (.int j) H8) : if b = true then t7 σ H Q else tCall spRoll [] E (tCons t0 (tCons (tC (.int 3)) tNil)) σ H Q := by
  cases b with
  | true => exact if_pos_of rfl (h7 _ (all i H i0 i1 Kd.rfl' hp))
  | false => exact if_neg_of rfl (h0 _ ⟨p, 3, rfl, hp, by decide, by decide, fun r H8 r0 r1 kd hp8 => all r H8 r0 (by omega) kd hp8⟩)
abbrev sDrawn : Stmt := top 40
structure TD (K : PySem.W.Frag) (mg : Str → Option Value) : Prop extends TA K mg where
  range : mg "range" = none
/-- the law's own defs that draw -/
structure LD (P : Program) (w : World) (K : PySem.W.Frag) (mg : Str → Option Value) (base : Heap) (fR fP fM fN fA : Addr) (fdR fdP fdM fdN fdA : FuncData) : Prop where
  eR : Gl K mg "_law_roll" fR
  GR : FnOk P w K mg base CX0 1 fR fdR ["_law_dice_here", "_law_total"] spRoll
  bR : Binds K fdR ["_law_dice_here", "_law_total"] []
  eP : Gl K mg "_law_pick" fP
  GP : FnOk P w K mg base CX0 2 fP fdP ["_law_dice_here", "_law_items"] spPick
  bP : Binds K fdP ["_law_dice_here", "_law_items"] []
  eM : Gl K mg "_law_mixed" fM
  GM : FnOk P w K mg base CX0 2 fM fdM ["_law_dice_here", "_law_items"] spMixed
  bM : Binds K fdM ["_law_dice_here", "_law_items"] []
  eN : Gl K mg "_law_names" fN
  GN : FnOk P w K mg base CX0 1 fN fdN [] spNames
  bN : Binds K fdN [] []
  eA : Gl K mg "_law_asking" fA
  GA : FnOk P w K mg base CX0 3 fA fdA ["_law_dice_here", "_law_clauses", "_law_share"] spAsking
  bA : Binds K fdA ["_law_dice_here", "_law_clauses", "_law_share"] []
section
variable {P : Program} {w : World} {K : PySem.W.Frag} {mg : Str → Option Value} {base : Heap} {fR fP fM fN fA : Addr} {fdR fdP fdM fdN fdA : FuncData}
abbrev nDrawn : List Str := ["_law_dice_here", "_law_most", "_law_width", "_law_is_plain", "_law_names_here", "_law_widths_here", "_law_clauses", "_law_at", "_law_table", "_law_columns_here", "_law_turn"]
theorem scDrawn : FnScope nDrawn ["_law_dice_here", "_law_most", "_law_width", "_law_is_plain"] (defScope sDrawn) := ⟨rfl, rfl, rfl, by decide +kernel, rfl, by decide +kernel, by decide +kernel⟩
theorem ok_drawn {f : Addr} {fd : FuncData} (F : Fun K "_law_drawn" "_law_drawn" sDrawn f fd) (T : TD K mg) (L : LD P w K mg base fR fP fM fN fA fdR fdP fdM fdN fdA) :
    FnOk P w K mg base CX0 4 f fd ["_law_dice_here", "_law_most", "_law_width", "_law_is_plain"] spDrawn := by
  refine F.ok scDrawn (fun vs H Q E h => ?_) (fun cdv A outer s H vs Q E hr h => ?_)
  · obtain ⟨p, most, width, b, rfl, _⟩ := h
    rfl
  · obtain ⟨p, most, width, b, rfl, hp, m0, m1, w0, w1, k⟩ := h
    have hr1 : Room 1 _ := hr.mono (by decide)
    have hr2 : Room 2 _ := hr.mono (by decide)
    refine ⟨_, pss_cons (ps_set (i := 4) scDrawn.nd rfl (Or.inr rfl) (pe_slice sl_list (pe_call L.GM hr2 (by rfl) L.eM.g L.eM.k L.bM .nil pass0 (pa_cons (pv 0) (pa_cons (pe_call0 L.GN hr1 (by rfl) L.eN.g L.eN.k L.bN .nil pass0) pa_nil))) po_none
        (po_some (pe_op op_add pe_int (pe_call L.GR hr1 (by rfl) L.eR.g L.eR.k L.bR .nil pass0 (pa_cons (pv 0) (pa_cons (pv 2) pa_nil)))))))
      (pss_cons (ps_par (i := 5) (j := 6) rfl scDrawn.nd rfl rfl (by decide) rfl rfl (pa_cons (pe_lc (own := [("_law_turn", 10)]) (g := gName 10) (tt := tYes) rfl scDrawn.nd (pi_range1 (by rfl) T.range (pa_cons pe_int pa_nil))
          (blkOk_by (own := [("_law_turn", 10)]) (N := nDrawn) (sc := defScope sDrawn) (by decide +kernel)) (fun _ _ _ _ _ => pg_name (i := 10) scDrawn.nd rfl (Or.inl rfl)) (fun _ _ _ _ _ => pts_nil)
          (fun _ _ _ _ _ => pe_op op_add pe_int (pe_call L.GR hr1 (by rfl) L.eR.g L.eR.k L.bR .nil pass0 (pa_cons (pv 0) (pa_cons pe_int pa_nil))))) (pa_cons (pe_lst pa_nil) pa_nil)) rfl)
      (pss_cons (ps_for PassesOwn.never rfl (pi_range1 (by rfl) T.range (pa_cons (pe_op op_add pe_int (pe_call L.GR hr1 (by rfl) L.eR.g L.eR.k L.bR .nil pass0 (pa_cons (pv 0) (pa_cons (pv 1) pa_nil)))) pa_nil)) (pg_name (i := 7) scDrawn.nd rfl (Or.inl rfl))
        (pss_cons (ps_set (i := 8) scDrawn.nd rfl (Or.inl rfl) (pe_ifExp (pt_val (pv 3)) (pv 7) (pe_call L.GR hr1 (by rfl) L.eR.g L.eR.k L.bR .nil pass0 (pa_cons (pv 0) (pa_cons pe_int pa_nil)))))
        (pss_cons (ps_set (i := 9) scDrawn.nd rfl (Or.inl rfl) (pe_callTy (T := "tuple") call_tuple_of (by rfl) T.tup (by decide +kernel) (pa_cons (pe_lc (own := [("_law_turn", 10)]) (g := gName 10) (tt := tYes) rfl scDrawn.nd
            (pi_range1 (by rfl) T.range (pa_cons (pe_ix ix_list (pv 5) (pv 8) (fun _ _ => rfl)) pa_nil))
            (blkOk_by (own := [("_law_turn", 10)]) (N := nDrawn) (sc := defScope sDrawn) (by decide +kernel)) (fun _ _ _ _ _ => pg_name (i := 10) scDrawn.nd rfl (Or.inl rfl)) (fun _ _ _ _ _ => pts_nil)
            (fun _ _ _ _ _ => pe_call L.GP hr2 (by rfl) L.eP.g L.eP.k L.bP .nil pass0 (pa_cons (pv 0) (pa_cons (pv 4) pa_nil)))) pa_nil)))
        (pss_one (ps_expr (pe_bm PySem.F.plainAttrs_list PySem.F.slot_list_append PySem.F.type_list_append mt_append (pv 6) (pa_cons (pe_tup (pa_cons (pe_ix ix_str pe_str (pv 8) (fun _ _ => rfl)) (pa_cons (pv 9) pa_nil))) pa_nil)))))))
      (pss_one (ps_ret (pe_call L.GA hr (by rfl) L.eA.g L.eA.k L.bA .nil pass0 (pa_cons (pv 0) (pa_cons (pv 6) (pa_cons (pe_call L.GR hr1 (by rfl) L.eR.g L.eR.k L.bR .nil pass0 (pa_cons (pv 0) (pa_cons pe_int pa_nil))) pa_nil)))))))), ?_⟩
    refine ⟨_, rfl, rfl, fun a ha => ?_⟩
    have s0 := K0.Same.new (.lst (names16.map V.str)) ha
    have hp0 := hp.same s0
    have ap : a ≠ p := dice_ne hp0 upd_same (no_int _)
    refine ⟨p, a, _, rfl, hp0, ap, upd_same, by decide, fun ys m H1 pm hm em kd1 hp1 => ?_⟩
    obtain ⟨zs, rfl, pz⟩ := strs_map_perm pm
    have zl : zs.length = 16 := pz.length_eq
    have mp : m ≠ p := dice_ne hp1 em (no_int _)
    refine ⟨_, rfl, _, rfl, p, _, rfl, hp1, by omega, by omega, fun r H2 r0 r1 kd2 hp2 => ⟨_, _, rfl, rfl, _, rfl, m, _, rfl, SqL.of (kd2 _ _ mp em), fun n hn => ?_⟩⟩
    rw [cutV_take zs (1 + r) (by omega) (by omega)]
    have pool8 : (zs.take (1 + r).toNat).length ≤ 8 := by rw [List.length_take]; omega
    have pool0 : 0 < (zs.take (1 + r).toNat).length := by rw [List.length_take]; omega
    have pool16 : ∀ k ∈ zs.take (1 + r).toNat, k ∈ names16 := fun k hk => pz.mem_iff.mp (List.mem_of_mem_take hk)
    generalize zs.take (1 + r).toNat = pool at pool8 pool0 pool16
    have s3 := K0.Same.new (.lst (pool.map V.str)) hn
    have kd3 : Kd p H _ := ((Kd.of s0).tr kd1).tr (kd2.tr (Kd.of s3))
    have hp3 := hp2.same s3
    have hn3 : upd H2 n (.lst (pool.map V.str)) n = some (.lst (pool.map V.str)) := upd_same
    have np : n ≠ p := dice_ne hp3 hn3 (no_int _)
    generalize upd H2 n (.lst (pool.map V.str)) = H3 at kd3 hp3 hn3
    refine ⟨8, rfl, by decide, by decide, fun D hD => lc_roll (p := p) (Gd := fun y => ∃ n : Int, y = .int n ∧ 1 ≤ n ∧ n ≤ 3) walk_range (small1000 (by decide)) hD hp3 (fun _ _ _ => True.intro) ?_ gName_mono ?_⟩
    · rintro i x H4 H5 hi kd4 dc4 ⟨rfl, rfl⟩
      exact ⟨rfl, fun Q' q => ⟨_, rfl, p, _, rfl, dc4, by decide, by decide, fun r3 H6 r30 r31 kd6 dc6 => ⟨_, _, rfl, rfl, q _ H6 ⟨_, rfl, by omega, by omega⟩ kd6 dc6⟩⟩⟩
    · intro H4 acc kd4 dc4 hD4 hacc hall
      have Dp : D ≠ p := fun e => by
        obtain ⟨x, y, z, q⟩ := hp3
        rw [← e, hD] at q
        cases q
      refine ⟨by show 0 ≤ sizeLine; decide, fun q hq => ⟨_, _, rfl, ?_⟩⟩
      have s5 := K0.Same.new (.lst []) hq
      have qp : q ≠ p := fun e => by
        obtain ⟨x, y, z, u⟩ := dc4
        rw [← e, hq] at u
        cases u
      have hq0 : H q = none := none_kd hp dc4 (kd3.tr kd4) hq
      have nq : n ≠ q := ne_of_none (kd4 _ _ np hn3) hq
      have Dq : D ≠ q := ne_of_none hD4 hq
      refine ⟨_, rfl, _, rfl, p, _, rfl, dc4.same s5, by omega, by omega, fun r5 H6 r50 r51 kd6 dc6 => ⟨_, _, rfl, rfl, _, rfl, by omega, by omega, for_range (n := (1 + r5).toNat)
        (fun i σ H' => ∃ (v7 v8 v9 : Option V) (ts : List Addr) (cs : List CL), σ = [some (.ref p), some (.int most), some (.int width), some (.bl b), some (.ref n), some (.ref D), some (.ref q), v7, v8, v9, none] ∧
          Kd p H H' ∧ DiceAt H' p ∧ H' n = some (.lst (pool.map V.str)) ∧ H' D = some (.lst acc) ∧ H' q = some (.lst (ts.map V.ref)) ∧ Cls H' ts cs ∧ cs.length = i ∧ ∀ c ∈ cs, WideAs acc pool c)
        ⟨none, none, none, [], [], rfl, (kd3.tr kd4).tr ((Kd.of s5).tr kd6), dc6, kd6 _ _ np (s5 _ _ (kd4 _ _ np hn3)), kd6 _ _ Dp (s5 _ _ hD4), kd6 _ _ qp upd_same, .nil, rfl, fun c h => by cases h⟩ ?_ ?_⟩⟩
      · rintro i σ H7 hi ⟨v7, v8, v9, ts, cs, rfl, kd7, dc7, hn7, hD7, hq7, hc7, len7, all7⟩
        refine ⟨_, rfl, _, rfl, if_tab (p := p) (i := 0 + (i : Int)) (fun Q q => ⟨_, rfl, q⟩) (fun Q q => ⟨_, rfl, q⟩) dc7 (by omega) (by omega) fun j H8 j0 j1 kd8 dc8 => ?_⟩
        have jl : j.toNat < acc.length := by omega
        obtain ⟨wn, ew, wn0, wn1⟩ := hall _ (List.getElem_mem jl)
        have eat : atI acc ((j.toNat : Nat) : Int) = some (.int wn) := atI_nat (by rw [List.getElem?_eq_getElem jl, ew])
        rw [Int.toNat_of_nonneg j0] at eat
        have hD8 := kd8 _ _ Dp hD7
        have hn8 := kd8 _ _ np hn7
        have hq8 := kd8 _ _ qp hq7
        have hc8 := hc7.kd dc7 kd8
        refine ⟨_, rfl, _, rfl, D, acc, j, _, rfl, rfl, SqL.of hD8, eat, wn, rfl, by omega, by omega, fun D2 hD2 => lc_roll (p := p) (Gd := fun y => ∃ z, y = V.str z ∧ z ∈ pool) walk_range (small1000 (by omega)) hD2 dc8 (fun _ _ _ => True.intro) ?_ gName_mono ?_⟩
        · rintro i2 x H9 H10 hi2 kd9 dc9 ⟨rfl, rfl⟩
          refine ⟨rfl, fun Q' q' => ⟨_, rfl, _, rfl, p, n, _, rfl, dc9, np, kd9 _ _ np hn8, by rw [List.length_map]; exact pool0, by rw [List.length_map]; omega, fun v H11 hv kd11 dc11 => q' _ H11 ?_ kd11 dc11⟩⟩
          obtain ⟨z, hz, rfl⟩ := List.mem_map.mp hv
          exact ⟨z, rfl, hz⟩
        · intro H9 acc2 kd9 dc9 hD9 hacc2 hall2
          obtain ⟨cols, rfl, hcols⟩ := strs_in acc2 pool hall2
          refine ⟨D2, _, rfl, .inl ⟨SqL.of hD9, fun t2 ht2 => ?_⟩⟩
          have s10 := K0.Same.new (.tup (cols.map V.str)) ht2
          have hq10 := s10 _ _ (kd9 _ _ qp hq8)
          obtain ⟨cc, ec1, ec2⟩ := tab_at (j := j.toNat) (by omega)
          have eat2 : atI tabLine.cps.toList ((j.toNat : Nat) : Int) = some cc := atI_nat ec1
          rw [Int.toNat_of_nonneg j0] at eat2
          refine ⟨_, rfl, .inl ⟨rfl, _, SqL.of hq10⟩, _, rfl, tabLine, j, cc, rfl, rfl, by decide +kernel, eat2, _, rfl, by show 2 ≤ sizeLine; decide, fun t ht => ?_⟩
          have s11 := K0.Same.new (.tup [.str ⟨#[cc]⟩, .ref t2]) ht
          have qt : q ≠ t := ne_of_none hq10 ht
          have kd11 := (kd8.tr kd9).tr ((Kd.of s10).tr (Kd.of s11))
          have cl11 : Cls _ ts cs := (((hc8.kd dc8 kd9).same s10).same s11)
          have new : ClA (upd (upd H9 t2 (.tup (cols.map V.str))) t (.tup [.str ⟨#[cc]⟩, .ref t2])) t ((⟨#[cc]⟩ : Str), cols) := ⟨t2, upd_same, s11 _ _ upd_same⟩
          have hq11 := s11 _ _ hq10
          have off : ∀ xs, upd (upd H9 t2 (.tup (cols.map V.str))) t (.tup [.str ⟨#[cc]⟩, .ref t2]) q ≠ some (.tup xs) := fun xs e => by
            rw [hq11] at e
            cases e
          have tl : ts.length = cs.length := hc7.len
          refine ⟨q, _, _, rfl, rfl, hq11, small1000 (by rw [List.length_map]; omega), ?_⟩
          refine ⟨_, _, _, ts ++ [t], cs ++ [((⟨#[cc]⟩ : Str), cols)], rfl, fun b' o nb e => ?_, (((dc9.same s10).same s11)).up qp.symm, ?_, ?_, by rw [upd_same, List.map_append]; rfl, (Cls.snoc new cl11).off off, by rw [List.length_append, len7]; rfl, fun c hc => ?_⟩
          · have old := kd7 _ _ nb e
            have nq' : b' ≠ q := fun z => by
              rw [z] at e
              exact absurd e (by rw [hq0]; exact fun z => by cases z)
            rw [upd_ne nq']
            exact kd11 _ _ nb old
          · rw [upd_ne nq]
            exact kd11 _ _ np hn7
          · rw [upd_ne Dq]
            exact kd11 _ _ Dp hD7
          · rcases List.mem_append.mp hc with e | e
            · exact all7 c e
            · rw [List.mem_singleton.mp e]
              exact ⟨j.toNat, wn, ec2, by rw [List.getElem?_eq_getElem jl, ew], by rw [← List.length_map (f := V.str), hacc2]; omega, wn0, wn1, hcols⟩
      · rintro σ H7 ⟨v7, v8, v9, ts, cs, rfl, kd7, dc7, hn7, hD7, hq7, hc7, len7, all7⟩
        have g : GoodQ cs := good_wide (fun e => by rw [e] at len7; simp at len7; omega) (by omega) pool8 pool16 all7
        exact ⟨_, rfl, _, rfl, _, rfl, p, _, rfl, dc7, by decide, by decide, fun r8 H8 r80 r81 kd8 dc8 => ask_good (E := E0) hp (kd7.tr kd8) dc8 (kd8 _ _ qp hq7) (hc7.kd dc7 kd8).ins g k⟩
end
end K0

/-! ## Q5 -/
set_option maxRecDepth 100000
set_option maxHeartbeats 2000000
namespace K0
open PySem L2 NS
/-! ### two addresses change -/
def Kd2 (p q : Addr) (H H' : Hp) : Prop := ∀ b o, b ≠ p → b ≠ q → H b = some o → H' b = some o
theorem Kd2.tr {p q : Addr} {A B C : Hp} (a : Kd2 p q A B) (b : Kd2 p q B C) : Kd2 p q A C := fun c o n1 n2 h => b c o n1 n2 (a c o n1 n2 h)
theorem Kd2.l {p q : Addr} {A B : Hp} (a : Kd p A B) : Kd2 p q A B := fun c o n1 _ h => a c o n1 h
theorem Kd2.r {p q : Addr} {A B : Hp} (a : Kd q A B) : Kd2 p q A B := fun c o _ n2 h => a c o n2 h
/-- a comprehension whose step rolls the dice and makes objects -/
theorem lc_rollR {J : It} {n : Nat} {G : Hp → Prop} {Y : Nat → Hp → V → Hp → Prop} (w : Walk J n G Y) {g : TG} {te : TE} {vs : List Nat} {σ : L2.St} {H1 : Hp} {D p : Addr} {Qd : Hp → Prop} (R : Nat → V → Hp → Prop)
    (mono : ∀ i y H H', R i y H → Kd2 p D H H' → R i y H') (hn : n < sizeLine) (hD : H1 D = none) (hp : DiceAt H1 p) (hG : ∀ H, Kd p H1 H → DiceAt H p → G H)
    (hs : ∀ i x H H', i < n → Kd p H1 H → DiceAt H p → (∃ acc, H D = some (.lst acc)) → Y i H x H' → g x (wipe σ vs) H' fun σ2 H2 => wipe σ2 vs = wipe σ vs ∧ ∀ (Q : V → Hp → Prop), (∀ y H4, Kd p H H4 → DiceAt H4 p → R i y H4 → Q y H4) → te σ2 H2 Q)
    (gm : ∀ x σ H (P R : L2.St → Hp → Prop), (∀ σ2 H2, P σ2 H2 → R σ2 H2) → g x σ H P → g x σ H R)
    (hd : ∀ H acc, Kd p H1 H → DiceAt H p → H D = some (.lst acc) → acc.length = n → (∀ i y, acc[i]? = some y → R i y H) → Qd H) :
    ∃ W : Nat → Nat → Hp → Prop, (∃ m, W 0 m (upd H1 D (.lst []))) ∧ ∀ i m H, W i m H →
      (J.stop i H ∧ Qd H) ∨ (J.go i H ∧ ∃ Nx : Hp → Prop, (∀ H', Nx H' → ∃ m', m' < m ∧ W (i + 1) m' H') ∧ ∀ x H', J.yld i H x H' → g x (wipe σ vs) H' fun σ2 H2 => wipe σ2 vs = wipe σ vs ∧ tYes σ2 H2 fun b H3 =>
        if b = true then te σ2 H3 fun y H4 => ∃ acc, H4 D = some (.lst acc) ∧ acc.length < sizeLine ∧ Nx (upd H4 D (.lst (acc ++ [y]))) else Nx H3) := by
  have hDp : p ≠ D := by
    obtain ⟨x0, y0, z0, e0⟩ := hp
    exact ne_of_none e0 hD
  refine lc_it w (fun i H => Kd p H1 H ∧ DiceAt H p ∧ ∃ acc, H D = some (.lst acc) ∧ acc.length = i ∧ ∀ j y, acc[j]? = some y → R j y H)
    ⟨Kd.of (Same.new _ hD), hp.up hDp, [], upd_same, rfl, fun j y z => by simp at z⟩ (fun i H _ q => hG H q.1 q.2.1) (fun i x H H' hi q y => ?_) (fun H q => ?_)
  · obtain ⟨q1, q2, acc, q3, q4, q5⟩ := q
    refine gm _ _ _ _ _ (fun σ2 H2 r => ⟨r.1, ?_⟩) (hs i x H H' hi q1 q2 ⟨acc, q3⟩ y)
    dsimp only [tYes]
    rw [if_pos rfl]
    refine r.2 _ fun y H4 s4 d4 r4 => ⟨acc, s4 _ _ hDp.symm q3, by omega, ?_, d4.up hDp, acc ++ [y], upd_same, by rw [List.length_append, q4]; rfl, ?_⟩
    · exact fun b o nb e => by rw [upd_ne (ne_of_none e hD)]; exact s4 _ _ nb (q1 _ _ nb e)
    · have kd : Kd2 p D H4 (upd H4 D (.lst (acc ++ [y]))) := fun b o _ nb e => by rw [upd_ne nb]; exact e
      intro j u hu
      by_cases c : j < acc.length
      · rw [List.getElem?_append_left c] at hu
        exact mono _ _ _ _ (mono _ _ _ _ (q5 j u hu) (Kd2.l s4)) kd
      · have c2 : j = acc.length := by
          have z := (List.getElem?_eq_some_iff.mp hu).1
          rw [List.length_append] at z
          simp at z
          omega
        rw [c2, List.getElem?_append_right (Nat.le_refl _), Nat.sub_self] at hu
        obtain rfl : y = u := Option.some.inj hu
        rw [c2, q4]
        exact mono _ _ _ _ r4 kd
  · obtain ⟨q1, q2, acc, q3, q4, q5⟩ := q
    exact hd H acc q1 q2 q3 q4 q5
/-! ### lists of columns -/
def okCols (pool : List Str) (xs : List Str) : Prop := 0 < xs.length ∧ xs.length ≤ 8 ∧ ∀ k ∈ xs, k ∈ pool
def SetA (H : Hp) (l : Addr) (xs : List Str) : Prop := H l = some (.lst (xs.map V.str))
def Sets (H : Hp) (ls : List Addr) (F : List Str → Prop) : Prop := ∀ l ∈ ls, ∃ xs : List Str, SetA H l xs ∧ F xs
theorem Sets.kd {H H' : Hp} {ls : List Addr} {F : List Str → Prop} {p : Addr} (h : Sets H ls F) (hp : DiceAt H p) (k : Kd p H H') : Sets H' ls F := fun l hl => by
  obtain ⟨xs, e, f⟩ := h l hl
  exact ⟨xs, k _ _ (dice_ne hp e (no_int _)) e, f⟩
theorem Sets.same {H H' : Hp} {ls : List Addr} {F : List Str → Prop} (h : Sets H ls F) (s : Same H H') : Sets H' ls F := fun l hl => by
  obtain ⟨xs, e, f⟩ := h l hl
  exact ⟨xs, s _ _ e, f⟩
theorem Sets.off {H : Hp} {ls : List Addr} {F : List Str → Prop} {q : Addr} {o : HO} (h : Sets H ls F) (n : q ∉ ls) : Sets (upd H q o) ls F := fun l hl => by
  obtain ⟨xs, e, f⟩ := h l hl
  exact ⟨xs, by show upd H q o l = _; rw [upd_ne (show l ≠ q from fun z => n (by rw [← z]; exact hl))]; exact e, f⟩
theorem Sets.weak {H : Hp} {ls : List Addr} {F G : List Str → Prop} (h : Sets H ls F) (g : ∀ xs, F xs → G xs) : Sets H ls G := fun l hl => by
  obtain ⟨xs, e, f⟩ := h l hl
  exact ⟨xs, e, g xs f⟩
theorem Sets.snoc {H : Hp} {ls : List Addr} {F : List Str → Prop} {l : Addr} {xs : List Str} (h : Sets H ls F) (e : SetA H l xs) (f : F xs) : Sets H (ls ++ [l]) F := fun m hm => by
  rcases List.mem_append.mp hm with z | z
  · exact h m z
  · rw [List.mem_singleton.mp z]
    exact ⟨xs, e, f⟩
/-! ### xs != [] -/
theorem dp_strs {K : PySem.W.Frag} {H : Hp} : ∀ xs : List Str, DpAll K H (xs.map V.str) (xs.map PyData.str)
  | [] => .nil
  | x :: xs => .cons (.str x) (dp_strs xs)
theorem lay_strs : ∀ xs : List Str, (∀ k ∈ xs, k ∈ names16) → PyData.canLayAll0 (xs.map PyData.str) = true ∧ PyData.depthAll (xs.map PyData.str) = 0
  | [], _ => ⟨rfl, rfl⟩
  | x :: xs, h => by
    obtain ⟨r1, r2⟩ := lay_strs xs fun k hk => h k (List.mem_cons_of_mem _ hk)
    have z : ∀ k ∈ names16, PyData.canLay0 (.str k) = true := by decide +kernel
    exact ⟨by rw [List.map_cons, PyData.canLayAll0, z x (h x List.mem_cons_self), r1]; rfl, by rw [List.map_cons, PyData.depthAll, r2]; rfl⟩
theorem shaped_strs {xs : List Str} (h : ∀ k ∈ xs, k ∈ names16) : SeqAt.shaped (.list (xs.map PyData.str)) = true := by
  obtain ⟨r1, r2⟩ := lay_strs xs h
  unfold SeqAt.shaped
  rw [PyData.canLay0, PyData.depth, r1, r2]
  rfl
theorem ne_nil_strs {K : PySem.W.Frag} {H : Hp} {a b : Addr} {xs : List Str} {Q : VK} (ha : H a = some (.lst (xs.map V.str))) (hb : H b = some (.lst [])) (h : ∀ k ∈ xs, k ∈ names16) (q : Q (.bl (decide (xs ≠ []))) H) : rNeD K (.ref a) (.ref b) H Q := by
  refine ⟨.list (xs.map .str), .list [], .lst (SqL.of ha) (dp_strs xs), .lst (SqL.of hb) .nil, shaped_strs h, by decide +kernel, ?_⟩
  have e : (!PyData.eqv (.list (xs.map .str)) (.list [])) = decide (xs ≠ []) := by
    cases xs with
    | nil => rfl
    | cons x xs => rfl
  rw [e]
  exact q
/-! ### the clauses at the end -/
def RowAt (zs : List Str) (pool : List Str) (D p : Addr) : Nat → V → Hp → Prop := fun i y H => ∃ (t t2 : Addr) (c : CL), y = V.ref t ∧ zs[i]? = some c.1 ∧ okCols pool c.2 ∧ t ≠ p ∧ t ≠ D ∧ t2 ≠ p ∧ t2 ≠ D ∧ H t = some (.tup [.str c.1, .ref t2]) ∧ H t2 = some (.tup (c.2.map V.str))
theorem RowAt.mono {zs pool : List Str} {D p : Addr} : ∀ i y H H', RowAt zs pool D p i y H → Kd2 p D H H' → RowAt zs pool D p i y H' := by
  rintro i y H H' ⟨t, t2, c, e1, e2, e3, n1, n2, n3, n4, h1, h2⟩ k
  exact ⟨t, t2, c, e1, e2, e3, n1, n2, n3, n4, k _ _ n1 n2 h1, k _ _ n3 n4 h2⟩
theorem rows_at {pool : List Str} {D p : Addr} {H : Hp} : ∀ (acc : List V) (zs : List Str), (∀ (i : Nat) (y : V), acc[i]? = some y → RowAt zs pool D p i y H) → ∃ (ts : List Addr) (cs : List CL), acc = ts.map V.ref ∧ Cls H ts cs ∧ ∀ (i : Nat) (c : CL), cs[i]? = some c → zs[i]? = some c.1 ∧ okCols pool c.2
  | [], _, _ => ⟨[], [], rfl, .nil, fun i c h => by simp at h⟩
  | y :: acc, zs, h => by
    obtain ⟨t, t2, c, rfl, e2, e3, _, _, _, _, h1, h2⟩ := h 0 y rfl
    have hz : ∃ z zs', zs = z :: zs' := by
      cases zs with
      | nil => cases e2
      | cons z zs' => exact ⟨z, zs', rfl⟩
    obtain ⟨z, zs', rfl⟩ := hz
    obtain ⟨ts, cs, rfl, r2, r3⟩ := rows_at acc zs' fun i u hu => h (i + 1) u hu
    refine ⟨t :: ts, c :: cs, rfl, .cons ⟨t2, h1, h2⟩ r2, fun i u hu => ?_⟩
    cases i with
    | zero =>
      obtain rfl : c = u := Option.some.inj hu
      exact ⟨e2, e3⟩
    | succ i => exact r3 i u hu
theorem good_rows {pool zs : List Str} {cs : List CL} (h0 : cs ≠ []) (h1 : cs.length ≤ 7) (hp : pool.length ≤ 8) (hn : ∀ k ∈ pool, k ∈ names16) (hz : zs.Perm tabs8) (h : ∀ (i : Nat) (c : CL), cs[i]? = some c → zs[i]? = some c.1 ∧ okCols pool c.2) : GoodQ cs where
  some_ := h0
  few := h1
  tab c hc := by
    obtain ⟨i, hi⟩ := List.mem_iff_getElem?.mp hc
    exact hz.mem_iff.mp (List.mem_of_getElem? (h i c hi).1)
  wide c hc := by
    obtain ⟨i, hi⟩ := List.mem_iff_getElem?.mp hc
    exact ⟨(h i c hi).2.1, (h i c hi).2.2.1⟩
  same c hc c' hc' e := by
    obtain ⟨i, hi⟩ := List.mem_iff_getElem?.mp hc
    obtain ⟨j, hj⟩ := List.mem_iff_getElem?.mp hc'
    have a1 := (h i c hi).1
    have b1 := (h j c' hj).1
    rw [← e] at b1
    have jj : i = j := by
      obtain ⟨l1, q1⟩ := List.getElem?_eq_some_iff.mp a1
      obtain ⟨l2, q2⟩ := List.getElem?_eq_some_iff.mp b1
      exact (List.getElem_inj (hz.nodup_iff.mpr tab_nodup)).mp (q1.trans q2.symm)
    subst jj
    rw [hi] at hj
    rw [Option.some.inj hj]
  cols := ⟨pool, hp, hn, fun c hc => by
    obtain ⟨i, hi⟩ := List.mem_iff_getElem?.mp hc
    exact (h i c hi).2.2.2⟩
/-! ### what is popped -/
structure PopI (H1 : Hp) (a D : Addr) (pool : List Str) (n : Nat) (acc ps : List Str) (H' : Hp) : Prop where
  ne : a ≠ D
  none_ : H1 D = none
  kd : Kd a H1 H'
  dt : H' D = some (.lst (acc.map V.str))
  pt : H' a = some (.lst (ps.map V.str))
  len : acc.length + ps.length = n
  acc_in : ∀ k ∈ acc, k ∈ pool
  ps_in : ∀ k ∈ ps, k ∈ pool
theorem PopI.same {H1 H' H2 : Hp} {a D : Addr} {pool : List Str} {n : Nat} {acc ps : List Str} (h : PopI H1 a D pool n acc ps H') (s : Same H' H2) : PopI H1 a D pool n acc ps H2 :=
  ⟨h.ne, h.none_, fun b o nb e => s _ _ (h.kd b o nb e), s _ _ h.dt, s _ _ h.pt, h.len, h.acc_in, h.ps_in⟩
theorem PopI.start {H1 : Hp} {a D : Addr} {pool ps : List Str} (ha : H1 a = some (.lst (ps.map V.str))) (hD : H1 D = none) (hin : ∀ k ∈ ps, k ∈ pool) : PopI H1 a D pool ps.length [] ps (upd H1 D (.lst [])) :=
  ⟨ne_of_none ha hD, hD, Kd.of (Same.new _ hD), upd_same, (by rw [upd_ne (ne_of_none ha hD)]; exact ha), (by simp), (fun k h => by cases h), hin⟩
theorem PopI.pop {H1 H' : Hp} {a D : Addr} {pool : List Str} {n : Nat} {acc ps : List Str} (h : PopI H1 a D pool n acc ps H') (ne : ps ≠ []) :
    ∃ y : Str, (ps.map V.str)[(ps.map V.str).length - 1]? = some (V.str y) ∧ upd H' a (.lst (ps.map V.str).dropLast) D = some (.lst (acc.map V.str)) ∧
      PopI H1 a D pool n (acc ++ [y]) ps.dropLast (upd (upd H' a (.lst (ps.map V.str).dropLast)) D (.lst (acc.map V.str ++ [V.str y]))) := by
  have pl : 0 < ps.length := List.length_pos_iff.mpr ne
  refine ⟨ps.getLast ne, ?_, by rw [upd_ne h.ne.symm]; exact h.dt, h.ne, h.none_, fun b o nb e => ?_, by rw [upd_same, List.map_append]; rfl, ?_, ?_, fun k hk => ?_, fun k hk => h.ps_in k (List.dropLast_subset _ hk)⟩
  · rw [List.length_map, List.getElem?_map, List.getElem?_eq_getElem (by omega), List.getLast_eq_getElem]
    rfl
  · rw [upd_ne (ne_of_none e h.none_), upd_ne nb]
    exact h.kd _ _ nb e
  · rw [upd_ne h.ne, upd_same, List.map_dropLast]
  · have z := h.len
    rw [List.length_append, List.length_dropLast]
    simp only [List.length_cons, List.length_nil]
    omega
  · rcases List.mem_append.mp hk with e | e
    · exact h.acc_in k e
    · rw [List.mem_singleton.mp e]
      exact h.ps_in _ (List.getLast_mem ne)
end K0

/-! ## Q6 -/
set_option maxRecDepth 100000
set_option maxHeartbeats 4000000
namespace K0
open PySem L2 NS
/-- tuple(x), x a list or a tuple -/
def rTupOf (K : PySem.W.Frag) : List V → Hp → VK → Prop := fun xs H Q => ∃ p ys, xs = [.ref p] ∧ ((SqL K H p ys ∧ ∀ l, H l = none → Q (.ref l) (upd H l (.tup ys))) ∨ (SqT K H p ys ∧ Q (.ref p) H))
theorem Sets.kd2 {H H' : Hp} {ls : List Addr} {F : List Str → Prop} {p a : Addr} (h : Sets H ls F) (hp : DiceAt H p) (n : a ∉ ls) (k : Kd2 p a H H') : Sets H' ls F := fun l hl => by
  obtain ⟨xs, e, f⟩ := h l hl
  exact ⟨xs, k _ _ (dice_ne hp e (no_int _)) (fun z => n (by rw [← z]; exact hl)) e, f⟩
/-- as many as were popped -/
def Popped (pool ps xs : List Str) : Prop := 0 < xs.length ∧ xs.length + ps.length ≤ 8 ∧ ∀ k ∈ xs, k ∈ pool
def TreeInv (H : Hp) (p a sA : Addr) (most : Int) (pool : List Str) (i : Nat) (σ : L2.St) (H' : Hp) : Prop := ∃ (v4 v5 v6 v7 : Option V) (ls : List Addr) (ps : List Str), σ = [some (.ref p), some (.int most), some (.ref a), some (.ref sA), v4, v5, v6, v7, none, none, none, none] ∧
          Kd p H H' ∧ DiceAt H' p ∧ H' a = some (.lst (ps.map V.str)) ∧ H' sA = some (.lst (ls.map V.ref)) ∧ ls.length = i + 1 ∧ a ∉ ls ∧ sA ∉ ls ∧ Sets H' ls (Popped pool ps) ∧ ∀ k ∈ ps, k ∈ pool
/-- a clause of the drawn sets -/
theorem row_step {K : PySem.W.Frag} {zs pool : List Str} {D p nA sA : Addr} {ls : List Addr} {σ : L2.St} {tN tAt tP tS : TE} {i : Nat} {H : Hp} {E : XK} (hN : ∀ (H : Hp) (Q : VK), Q (.ref nA) H → tN σ H Q) (hA : ∀ (H : Hp) (Q : VK), Q (.int (0 + (i : Int))) H → tAt σ H Q)
    (hP : ∀ (H : Hp) (Q : VK), Q (.ref p) H → tP σ H Q) (hS : ∀ (H : Hp) (Q : VK), Q (.ref sA) H → tS σ H Q) (hi : i < ls.length) (dc : DiceAt H p) (Dp : D ≠ p) (eD : ∃ acc, H D = some (.lst acc)) (eN : H nA = some (.lst (zs.map V.str))) (nN : nA ≠ p) (hz : ls.length ≤ zs.length)
    (eS : H sA = some (.lst (ls.map V.ref))) (nS : sA ≠ p) (sets : Sets H ls (okCols pool)) {Q : VK} (q : ∀ y H4, Kd p H H4 → DiceAt H4 p → RowAt zs pool D p i y H4 → Q y H4) :
    tTup (tCons (tOp (rIxL K) tN tAt) (tCons (tCB (rTupOf K) (tCons (tCall spMixed [] E (tCons tP (tCons (tOp (rIxL K) tS tAt) tNil))) tNil)) tNil)) σ H Q := by
  have hiz : i < zs.length := Nat.lt_of_lt_of_le hi hz
  have z0 : (0 + (i : Int)) = ((i : Nat) : Int) := by omega
  have a1 : atI (zs.map V.str) (0 + (i : Int)) = some (V.str zs[i]) := by
    rw [z0]
    exact atI_nat (by rw [List.getElem?_map, List.getElem?_eq_getElem hiz]; rfl)
  have a2 : atI (ls.map V.ref) (0 + (i : Int)) = some (V.ref ls[i]) := by
    rw [z0]
    exact atI_nat (by rw [List.getElem?_map, List.getElem?_eq_getElem hi]; rfl)
  obtain ⟨xs, ex, ok⟩ := sets ls[i] (List.getElem_mem hi)
  have x8 : xs.length ≤ 8 := ok.2.1
  refine hN _ _ (hA _ _ ⟨nA, _, _, _, rfl, rfl, SqL.of eN, a1, hP _ _ (hS _ _ (hA _ _ ⟨sA, _, _, _, rfl, rfl, SqL.of eS, a2, p, ls[i], _, rfl, dc, dice_ne dc ex (no_int _), ex, by rw [List.length_map]; omega, fun ys m H2 pm hm em kd2 dc2 => ?_⟩))⟩)
  obtain ⟨cols, rfl, pc⟩ := strs_map_perm pm
  refine ⟨m, _, rfl, .inl ⟨SqL.of em, fun t2 ht2 => ⟨by show 2 ≤ sizeLine; decide, fun t ht => ?_⟩⟩⟩
  have s3 := K0.Same.new (.tup (cols.map V.str)) ht2
  have s4 := K0.Same.new (.tup [.str zs[i], .ref t2]) ht
  obtain ⟨acc, eD⟩ := eD
  have eD2 := kd2 _ _ Dp eD
  have dice_no : ∀ {H : Hp} {b : Addr}, DiceAt H p → H b = none → b ≠ p := fun {H b} d h e => by
    obtain ⟨x, y, z, u⟩ := d
    rw [e, u] at h
    cases h
  have no : ∀ {H : Hp} {b : Addr}, H D = some (.lst acc) → H b = none → b ≠ D := fun {H b} d h e => by
    rw [e, d] at h
    cases h
  refine q _ _ (kd2.tr ((Kd.of s3).tr (Kd.of s4))) ((dc2.same s3).same s4) ⟨t, t2, (zs[i], cols), rfl, List.getElem?_eq_getElem hiz, ⟨by rw [pc.length_eq]; exact ok.1, by rw [pc.length_eq]; exact ok.2.1, fun k hk => ok.2.2 k (pc.mem_iff.mp hk)⟩,
    dice_no (dc2.same s3) ht, no (s3 _ _ eD2) ht, dice_no dc2 ht2, no eD2 ht2, upd_same, s4 _ _ upd_same⟩
abbrev sTree : Stmt := top 41
def spTree : Sp := fun vs H Q _ => ∃ (p : Addr) (most : Int), vs = [.ref p, .int most] ∧ DiceAt H p ∧ 1 ≤ most ∧ most ≤ 7 ∧ GiveQ H p Q
section
variable {P : Program} {w : World} {K : PySem.W.Frag} {mg : Str → Option Value} {base : Heap} {fR fP fM fN fA : Addr} {fdR fdP fdM fdN fdA : FuncData}
abbrev nTree : List Str := ["_law_dice_here", "_law_most", "_law_pool", "_law_sets", "_law_turn", "_law_old", "_law_kept", "_law_fresh", "_law_names_here", "_law_clauses", "_law_one", "_law_at"]
theorem scTree : FnScope nTree ["_law_dice_here", "_law_most"] (defScope sTree) := ⟨rfl, rfl, rfl, by decide +kernel, rfl, by decide +kernel, by decide +kernel⟩
theorem ok_tree {f : Addr} {fd : FuncData} (F : Fun K "_law_tree" "_law_tree" sTree f fd) (T : TD K mg) (L : LD P w K mg base fR fP fM fN fA fdR fdP fdM fdN fdA) :
    FnOk P w K mg base CX0 4 f fd ["_law_dice_here", "_law_most"] spTree := by
  refine F.ok scTree (fun vs H Q E h => ?_) (fun cdv A outer s H vs Q E hr h => ?_)
  · obtain ⟨p, most, rfl, _⟩ := h
    rfl
  · obtain ⟨p, most, rfl, hp, m0, m1, k⟩ := h
    have hr1 : Room 1 _ := hr.mono (by decide)
    have hr2 : Room 2 _ := hr.mono (by decide)
    refine ⟨_, pss_cons (ps_set (i := 2) scTree.nd rfl (Or.inr rfl) (pe_slice sl_list (pe_call L.GM hr2 (by rfl) L.eM.g L.eM.k L.bM .nil pass0 (pa_cons (pv 0) (pa_cons (pe_call0 L.GN hr1 (by rfl) L.eN.g L.eN.k L.bN .nil pass0) pa_nil))) po_none (po_some pe_int)))
      (pss_cons (ps_set (i := 3) scTree.nd rfl (Or.inr rfl) (pe_lst (pa_cons (pe_lc (own := [("_law_turn", 4)]) (g := gName 4) (tt := tYes) (te := tBM0 K "list" rPop (tVar 2)) rfl scTree.nd (pi_range1 (by rfl) T.range (pa_cons (pe_op op_add pe_int (pe_call L.GR hr1 (by rfl) L.eR.g L.eR.k L.bR .nil pass0 (pa_cons (pv 0) (pa_cons pe_int pa_nil)))) pa_nil))
          (blkOk_by (own := [("_law_turn", 4)]) (N := nTree) (sc := defScope sTree) (by decide +kernel)) (fun _ _ _ _ _ => pg_name (i := 4) scTree.nd rfl (Or.inl rfl)) (fun _ _ _ _ _ => pts_nil)
          (fun _ _ _ _ _ => pe_bm0 PySem.F.plainAttrs_list PySem.F.slot_list_pop PySem.F.type_list_pop mt_pop (pv 2))) pa_nil)))
      (pss_cons (ps_for PassesOwn.never rfl (pi_range1 (by rfl) T.range (pa_cons (pe_call L.GR hr1 (by rfl) L.eR.g L.eR.k L.bR .nil pass0 (pa_cons (pv 0) (pa_cons (pv 1) pa_nil))) pa_nil)) (pg_name (i := 4) scTree.nd rfl (Or.inl rfl))
        (pss_cons (ps_set (i := 5) scTree.nd rfl (Or.inl rfl) (pe_call L.GP hr2 (by rfl) L.eP.g L.eP.k L.bP .nil pass0 (pa_cons (pv 0) (pa_cons (pv 3) pa_nil))))
        (pss_cons (ps_set (i := 6) scTree.nd rfl (Or.inl rfl) (pe_slice sl_list (pe_call L.GM hr2 (by rfl) L.eM.g L.eM.k L.bM .nil pass0 (pa_cons (pv 0) (pa_cons (pv 5) pa_nil))) po_none
            (po_some (pe_call L.GR hr1 (by rfl) L.eR.g L.eR.k L.bR .nil pass0 (pa_cons (pv 0) (pa_cons (pe_op op_add (pe_callB call_len_seq (by rfl) T.len PySem.boot_len (pa_cons (pv 5) pa_nil)) pe_int) pa_nil))))))
        (pss_cons (ps_setLc (i := 7) (own := [("_law_one", 10)]) (g := gName 10) (te := tBM0 K "list" rPop (tVar 2)) (by rfl) scTree.nd rfl rfl (sw_true rfl rfl rfl (by decide +kernel)) (pi_range1 (by rfl) T.range (pa_cons (pe_call L.GR hr1 (by rfl) L.eR.g L.eR.k L.bR .nil pass0 (pa_cons (pv 0) (pa_cons pe_int pa_nil))) pa_nil))
            (blkOk_by (own := [("_law_one", 10)]) (N := nTree) (sc := defScope sTree) (by decide +kernel)) (fun _ _ _ _ _ => pg_name (i := 10) scTree.nd rfl (Or.inl rfl)) (fun _ _ _ _ _ => pts_one (pt_cmpR (r := rNeD K) (op_neD hr.units) (pv 2) (pe_lst pa_nil) (nomark _)))
            (fun _ _ _ _ _ => pe_bm0 PySem.F.plainAttrs_list PySem.F.slot_list_pop PySem.F.type_list_pop mt_pop (pv 2)))
        (pss_one (ps_expr (pe_bm PySem.F.plainAttrs_list PySem.F.slot_list_append PySem.F.type_list_append mt_append (pv 3) (pa_cons (pe_ifExp (pt_cmpR (op_neD hr.units) (pe_op op_cat (pv 6) (pv 7)) (pe_lst pa_nil) (nomark _))
            (pe_op op_cat (pv 6) (pv 7)) (pe_slice sl_list (pv 5) po_none (po_some pe_int))) pa_nil))))))))
      (pss_cons (ps_set (i := 8) scTree.nd rfl (Or.inr rfl) (pe_call L.GM hr2 (by rfl) L.eM.g L.eM.k L.bM .nil pass0 (pa_cons (pv 0) (pa_cons (pe_callTy (T := "list") (cr_listTx rfl) (by rfl) T.list (by decide +kernel) (pa_cons pe_str pa_nil)) pa_nil))))
      (pss_cons (ps_setLc (i := 9) (own := [("_law_at", 11)]) (g := gName 11) (tt := tYes) (by rfl) scTree.nd rfl rfl (sw_true rfl rfl rfl (by decide +kernel)) (pi_range1 (by rfl) T.range (pa_cons (pe_callB call_len_seq (by rfl) T.len PySem.boot_len (pa_cons (pv 3) pa_nil)) pa_nil))
          (blkOk_by (own := [("_law_at", 11)]) (N := nTree) (sc := defScope sTree) (by decide +kernel)) (fun _ _ _ _ _ => pg_name (i := 11) scTree.nd rfl (Or.inl rfl)) (fun _ _ _ _ _ => pts_nil)
          (fun _ _ _ _ _ => pe_tup (pa_cons (pe_ix (r := rIxL K) ix_list (pv 8) (pv 11) (fun _ _ => rfl)) (pa_cons (pe_callTy (T := "tuple") (r := rTupOf K) call_tuple_of (by rfl) T.tup (by decide +kernel) (pa_cons (pe_call L.GM hr2 (by rfl) L.eM.g L.eM.k L.bM .nil pass0
            (pa_cons (pv 0) (pa_cons (pe_ix (r := rIxL K) ix_list (pv 3) (pv 11) (fun _ _ => rfl)) pa_nil))) pa_nil)) pa_nil))))
      (pss_one (ps_ret (pe_call L.GA hr (by rfl) L.eA.g L.eA.k L.bA .nil pass0 (pa_cons (pv 0) (pa_cons (pv 9) (pa_cons (pe_call L.GR hr1 (by rfl) L.eR.g L.eR.k L.bR .nil pass0 (pa_cons (pv 0) (pa_cons pe_int pa_nil))) pa_nil)))))))))), ?_⟩
    refine ⟨_, rfl, rfl, fun a0 ha0 => ?_⟩
    have s0 := K0.Same.new (.lst (names16.map V.str)) ha0
    have hp0 := hp.same s0
    refine ⟨p, a0, _, rfl, hp0, dice_ne hp0 upd_same (no_int _), upd_same, by decide, fun ys m H1 pm hm em kd1 hp1 => ?_⟩
    obtain ⟨zs, rfl, pz⟩ := strs_map_perm pm
    have zl : zs.length = 16 := pz.length_eq
    refine ⟨8, rfl, m, _, rfl, SqL.of em, fun a ha => ?_⟩
    have e8 : cutV (zs.map V.str) none (some (8 : Int)) = (zs.take 8).map V.str := cutV_take zs 8 (by decide) (by omega)
    rw [e8]
    have pool8 : (zs.take 8).length = 8 := by rw [List.length_take]; omega
    have pool16 : ∀ k ∈ zs.take 8, k ∈ names16 := fun k hk => pz.mem_iff.mp (List.mem_of_mem_take hk)
    generalize zs.take 8 = pool at pool8 pool16
    have s2 := K0.Same.new (.lst (pool.map V.str)) ha
    have kd2 : Kd p H _ := ((Kd.of s0).tr kd1).tr (Kd.of s2)
    have hp2 := hp1.same s2
    have ea2 : upd H1 a (.lst (pool.map V.str)) a = some (.lst (pool.map V.str)) := upd_same
    have ap : a ≠ p := dice_ne hp2 ea2 (no_int _)
    have ha0' : H a = none := none_back s0 (none_kd hp0 hp1 kd1 ha)
    generalize upd H1 a (.lst (pool.map V.str)) = H2 at kd2 hp2 ea2
    refine ⟨_, rfl, p, _, rfl, hp2, by decide, by decide, fun r H3 r0 r1 kd3 hp3 => ⟨_, _, rfl, rfl, 1 + r, rfl, by omega, by omega, fun D hD => lc_it walk_range (fun i H' => ∃ acc ps, PopI H3 a D pool pool.length acc ps H' ∧ acc.length = i)
      ⟨[], pool, PopI.start (kd3 _ _ ap ea2) hD (fun k hk => hk), rfl⟩ (fun _ _ _ _ => True.intro) ?_ ?_⟩⟩
    · rintro i x H4 H5 hi ⟨acc, ps, pi, len⟩ ⟨rfl, rfl⟩
      have pl := pi.len
      obtain ⟨y, h1, h2, h3⟩ := pi.pop (fun e => by rw [e] at pl; simp at pl; omega)
      refine ⟨rfl, ?_⟩
      dsimp only [tYes]
      rw [if_pos rfl]
      exact ⟨_, rfl, .inl ⟨rfl, _, SqL.of pi.pt⟩, a, _, _, rfl, rfl, pi.pt, h1, _, h2, by rw [List.length_map, sizeLine_eq]; omega, acc ++ [y], _, h3, by rw [List.length_append, len]; rfl⟩
    · rintro H4 ⟨acc, ps, pi, len⟩
      refine ⟨by show 1 ≤ sizeLine; decide, fun sA hsA => ?_⟩
      have s5 := K0.Same.new (.lst [.ref D]) hsA
      have hp4 : DiceAt H4 p := by
        obtain ⟨x, y, z, e⟩ := hp3
        exact ⟨x, y, z, pi.kd _ _ ap.symm e⟩
      have hp5 := hp4.same s5
      have sAp : sA ≠ p := fun e => by
        obtain ⟨x, y, z, u⟩ := hp4
        rw [← e, hsA] at u
        cases u
      have kd5 : Kd p H _ := fun b o nb e => s5 _ _ (pi.kd b o (ne_of_none e ha0') (kd3 _ _ nb (kd2 _ _ nb e)))
      have a5 := s5 _ _ pi.pt
      have D5 := s5 _ _ pi.dt
      have sA0 : H sA = none := by
        cases e : H sA with
        | none => rfl
        | some o =>
          have z := pi.kd sA o (ne_of_none e ha0') (kd3 _ _ sAp (kd2 _ _ sAp e))
          rw [z] at hsA
          cases hsA
      have asA : a ≠ sA := ne_of_none pi.pt hsA
      have DsA : D ≠ sA := ne_of_none pi.dt hsA
      have sA5 : upd H4 sA (.lst [.ref D]) sA = some (.lst [.ref D]) := upd_same
      generalize upd H4 sA (.lst [.ref D]) = H5 at hp5 kd5 a5 D5 sA5
      refine ⟨_, rfl, _, rfl, p, _, rfl, hp5, by omega, by omega, fun r5 H6 r50 r51 kd6 hp6 => ⟨r5, rfl, by omega, by omega, for_range (n := r5.toNat)
        (TreeInv H p a sA most pool)
        ⟨none, none, none, none, [D], ps, rfl, Kd.tr kd5 kd6, hp6, kd6 _ _ ap a5, kd6 _ _ sAp sA5, rfl, (fun z => pi.ne (List.mem_singleton.mp z)), (fun z => DsA (List.mem_singleton.mp z).symm), ?_, pi.ps_in⟩ ?_ ?_⟩⟩
      · intro l hl
        rw [List.mem_singleton.mp hl]
        have Dp : D ≠ p := dice_ne hp5 D5 (no_int _)
        exact ⟨acc, kd6 _ _ Dp D5, by rw [len]; omega, by have := pi.len; omega, pi.acc_in⟩
      · rintro i σ H7 hi ⟨v4, v5, v6, v7, ls, ps7, rfl, kd7, hp7, a7, sA7, len7, nal, nsl, sets7, ps_in⟩
        refine ⟨_, rfl, _, rfl, p, sA, _, rfl, hp7, sAp, sA7, by rw [List.length_map]; omega, by rw [List.length_map]; omega, fun v H8 hv kd8 hp8 => ?_⟩
        obtain ⟨l, hl, rfl⟩ := List.mem_map.mp hv
        have sets8 := sets7.kd hp7 kd8
        obtain ⟨xs, ex, f0, f1, f2⟩ := sets8 l hl
        have lp : l ≠ p := dice_ne hp8 ex (no_int _)
        refine ⟨_, rfl, _, rfl, p, l, _, rfl, hp8, lp, ex, by rw [List.length_map]; omega, fun ys9 m9 H9 pm9 hm9 em9 kd9 hp9 => ?_⟩
        obtain ⟨zs9, rfl, pz9⟩ := strs_map_perm pm9
        have zl9 := pz9.length_eq
        have m9p : m9 ≠ p := dice_ne hp9 em9 (no_int _)
        refine ⟨_, rfl, _, rfl, l, _, rfl, .inl (SqL.of (kd9 _ _ lp ex)), _, _, rfl, rfl, p, _, rfl, hp9, by rw [List.length_map]; omega, by rw [List.length_map]; omega, fun r10 H10 r100 r101 kd10 hp10 => ⟨r10, rfl, m9, _, rfl, SqL.of (kd10 _ _ m9p em9), fun kA hkA => ?_⟩⟩
        rw [List.length_map] at r101
        rw [cutV_take zs9 r10 r100 (by omega)]
        have kept_in : ∀ k ∈ zs9.take r10.toNat, k ∈ pool := fun k hk => f2 k (pz9.mem_iff.mp (List.mem_of_mem_take hk))
        have kept_len : (zs9.take r10.toNat).length ≤ xs.length := by rw [List.length_take]; omega
        generalize zs9.take r10.toNat = kept at kept_in kept_len
        have kAa : kA ≠ a := (ne_of_none (kd10 _ _ ap (kd9 _ _ ap (kd8 _ _ ap a7))) hkA).symm
        have s11 := K0.Same.new (.lst (kept.map V.str)) hkA
        have hp11 := hp10.same s11
        have K11 := (kd8.tr kd9).tr (kd10.tr (Kd.of s11))
        have K9 := kd9.tr (kd10.tr (Kd.of s11))
        have ekA : upd H10 kA (.lst (kept.map V.str)) kA = some (.lst (kept.map V.str)) := upd_same
        have kAp : kA ≠ p := dice_ne hp11 ekA (no_int _)
        generalize upd H10 kA (.lst (kept.map V.str)) = H11 at hp11 K11 K9 ekA
        refine ⟨_, rfl, p, _, rfl, hp11, by decide, by decide, fun r12 H12 r120 r121 kd12 hp12 => ⟨r12, rfl, by omega, by omega, fun D2 hD2 => lc_it walk_range (fun i H' => ∃ acc ps', PopI H12 a D2 pool ps7.length acc ps' H' ∧ acc.length ≤ i)
          ⟨[], ps7, PopI.start (kd12 _ _ ap (K11 _ _ ap a7)) hD2 ps_in, Nat.le_refl _⟩ (fun _ _ _ _ => True.intro) ?_ ?_⟩⟩
        · rintro i2 x H13 H14 hi2 ⟨acc2, ps2, pi2, len2⟩ ⟨rfl, rfl⟩
          refine ⟨rfl, _, rfl, by show 0 ≤ sizeLine; decide, fun b hb => ne_nil_strs (xs := ps2) (K0.Same.new _ hb _ _ pi2.pt) upd_same (fun k hk => pool16 k (pi2.ps_in k hk)) ⟨_, rfl, ?_⟩⟩
          have pi3 := pi2.same (K0.Same.new (.lst []) hb)
          by_cases c : ps2 ≠ []
          · obtain ⟨y, h1, h2, h3⟩ := pi3.pop c
            exact if_pos_of (decide_eq_true c) ⟨_, rfl, .inl ⟨rfl, _, SqL.of pi3.pt⟩, a, _, _, rfl, rfl, pi3.pt, h1, _, h2, by rw [List.length_map, sizeLine_eq]; omega, acc2 ++ [y], _, h3, by rw [List.length_append]; simp only [List.length_cons, List.length_nil]; omega⟩
          · exact if_neg_of (decide_eq_false c) ⟨acc2, ps2, pi3, by omega⟩
        · rintro H13 ⟨fresh, ps2, pi2, len2⟩
          have pl2 := pi2.len
          have K13 : Kd2 p a H7 H13 := (Kd2.l (K11.tr kd12)).tr (Kd2.r pi2.kd)
          have hp13 : DiceAt H13 p := by
            obtain ⟨x, y, z, e⟩ := hp12
            exact ⟨x, y, z, pi2.kd _ _ ap.symm e⟩
          have ek13 := pi2.kd _ _ kAa (kd12 _ _ kAp ekA)
          have sA13 := K13 _ _ sAp asA.symm sA7
          have D2p : D2 ≠ p := dice_ne hp13 pi2.dt (no_int _)
          have sets13 := sets7.kd2 hp7 nal K13
          have la : l ≠ a := fun z => nal (by rw [← z]; exact hl)
          have l13 : H13 l = some (.lst (xs.map V.str)) := (Kd2.tr (Kd2.l (K9.tr kd12)) (Kd2.r pi2.kd)) _ _ lp la ex
          have fin : ∀ (H15 : Hp) (c2 : Addr) (new : List Str) (v4 v5 v6 v7 : Option V), Same H13 H15 → H15 c2 = some (.lst (new.map V.str)) → c2 ≠ a → c2 ≠ sA → Popped pool ps2 new →
              TreeInv H p a sA most pool (i + 1) [some (.ref p), some (.int most), some (.ref a), some (.ref sA), v4, v5, v6, v7, none, none, none, none] (upd H15 sA (.lst (ls.map V.ref ++ [V.ref c2]))) := by
            intro H15 c2 new v4 v5 v6 v7 s15 e15 na ns pop
            have hp15 := hp13.same s15
            have sets15 : Sets H15 ls (Popped pool ps2) := (sets13.same s15).weak fun xs h => ⟨h.1, by have := h.2.1; omega, h.2.2⟩
            have nsl2 : sA ∉ ls ++ [c2] := fun z => by
              rcases List.mem_append.mp z with z | z
              · exact nsl z
              · exact ns (List.mem_singleton.mp z).symm
            refine ⟨v4, v5, v6, v7, ls ++ [c2], ps2, rfl, fun b o nb e => ?_, hp15.up sAp.symm, ?_, ?_, by rw [List.length_append, len7]; rfl, fun z => ?_, nsl2, (sets15.snoc (l := c2) e15 pop).off nsl2, pi2.ps_in⟩
            · rw [upd_ne (ne_of_none e sA0)]
              exact s15 _ _ (K13 _ _ nb (ne_of_none e ha0') (kd7 _ _ nb e))
            · rw [upd_ne asA]
              exact s15 _ _ pi2.pt
            · rw [upd_same, List.map_append]
              rfl
            · rcases List.mem_append.mp z with z | z
              · exact nal z
              · exact na (List.mem_singleton.mp z).symm
          have small : (kept.map V.str).length + (fresh.map V.str).length ≤ sizeLine := by rw [List.length_map, List.length_map, sizeLine_eq]; omega
          have lsm : (ls.map V.ref).length ≤ 1000 := by rw [List.length_map]; omega
          refine ⟨_, rfl, .inl ⟨rfl, _, SqL.of sA13⟩, _, rfl, _, rfl, kA, D2, _, _, rfl, rfl, ek13, pi2.dt, small, fun c hc => ⟨by show 0 ≤ sizeLine; decide, fun b hb => ?_⟩⟩
          have sc := K0.Same.new (.lst (kept.map V.str ++ fresh.map V.str)) hc
          have sb := K0.Same.new (.lst []) hb
          have ec : upd (upd H13 c (.lst (kept.map V.str ++ fresh.map V.str))) b (.lst []) c = some (.lst ((kept ++ fresh).map V.str)) := by
            rw [List.map_append]
            exact sb _ _ upd_same
          have s14 := K0.Same.tr sc sb
          refine ne_nil_strs (xs := kept ++ fresh) ec upd_same (fun k hk => ?_) ⟨_, rfl, ?_⟩
          · rcases List.mem_append.mp hk with z | z
            · exact pool16 k (kept_in k z)
            · exact pool16 k (pi2.acc_in k z)
          by_cases cc : kept ++ fresh ≠ []
          · refine if_pos_of (decide_eq_true cc) ⟨_, rfl, _, rfl, kA, D2, _, _, rfl, rfl, s14 _ _ ek13, s14 _ _ pi2.dt, small, fun c2 hc2 => ?_⟩
            have s16 := K0.Same.new (.lst (kept.map V.str ++ fresh.map V.str)) hc2
            have s15 := K0.Same.tr s14 s16
            refine ⟨sA, _, _, rfl, rfl, s15 _ _ sA13, small1000 lsm, fin _ c2 (kept ++ fresh) _ _ _ _ s15 (by rw [upd_same, List.map_append]) ?_ ?_ ⟨List.length_pos_iff.mpr cc, by rw [List.length_append]; omega, fun k hk => ?_⟩⟩
            · exact (ne_of_none (s14 _ _ pi2.pt) hc2).symm
            · exact (ne_of_none (s14 _ _ sA13) hc2).symm
            · rcases List.mem_append.mp hk with z | z
              · exact kept_in k z
              · exact pi2.acc_in k z
          · refine if_neg_of (decide_eq_false cc) ⟨_, rfl, 1, rfl, l, _, rfl, SqL.of (s14 _ _ l13), fun c2 hc2 => ?_⟩
            have e1 : cutV (xs.map V.str) none (some (1 : Int)) = (xs.take 1).map V.str := cutV_take xs 1 (by decide) (by omega)
            rw [e1]
            have s16 := K0.Same.new (.lst ((xs.take 1).map V.str)) hc2
            have s15 := K0.Same.tr s14 s16
            have f0' : 0 < xs.length := f0
            refine ⟨sA, _, _, rfl, rfl, s15 _ _ sA13, small1000 lsm, fin _ c2 (xs.take 1) _ _ _ _ s15 upd_same ?_ ?_ ⟨by rw [List.length_take]; omega, by rw [List.length_take]; omega, fun k hk => f2 k (List.mem_of_mem_take hk)⟩⟩
            · exact (ne_of_none (s14 _ _ pi2.pt) hc2).symm
            · exact (ne_of_none (s14 _ _ sA13) hc2).symm
      · rintro σ H7 ⟨v4, v5, v6, v7, ls, ps7, rfl, kd7, hp7, a7, sA7, len7, nal, nsl, sets7, ps_in⟩
        refine ⟨_, rfl, tabLine, rfl, by decide +kernel, fun tA htA => ?_⟩
        have sT := K0.Same.new (.lst ((lettersOf tabLine).map V.str)) htA
        have hp8 := hp7.same sT
        refine ⟨p, tA, _, rfl, hp8, dice_ne hp8 upd_same (no_int _), upd_same, by decide +kernel, fun ys nA H9 pm9 hm9 eN kd9 hp9 => ?_⟩
        obtain ⟨zs9, rfl, pz9⟩ := strs_map_perm pm9
        have z8 : zs9.length = 8 := pz9.length_eq.trans tab_len
        have nN : nA ≠ p := dice_ne hp9 eN (no_int _)
        have sA9 := kd9 _ _ sAp (sT _ _ sA7)
        have sets9 := (sets7.same sT).kd hp8 kd9
        refine ⟨_, rfl, sA, _, rfl, .inl (SqL.of sA9), _, rfl, by omega, by rw [List.length_map]; omega, fun D2 hD2 => ?_⟩
        have D2p : D2 ≠ p := fun e => by
          obtain ⟨x, y, z, u⟩ := hp9
          rw [← e, hD2] at u
          cases u
        refine lc_rollR (p := p) walk_range (RowAt zs9 pool D2 p) RowAt.mono (small1000 (by rw [List.length_map]; omega)) hD2 hp9 (fun _ _ _ => True.intro) ?_ gName_mono ?_
        · rintro i x H10 H11 hi kd10 hp10 eD ⟨rfl, rfl⟩
          have hi' : i < ls.length := by
            have z : ((((ls.map V.ref).length : Nat) : Int)).toNat = ls.length := by rw [List.length_map]; rfl
            omega
          refine ⟨rfl, fun Q' q => row_step (zs := zs9) (pool := pool) (nA := nA) (sA := sA) (i := i) (fun H Q q => ⟨_, rfl, q⟩) (fun H Q q => ⟨_, rfl, q⟩) (fun H Q q => ⟨_, rfl, q⟩) (fun H Q q => ⟨_, rfl, q⟩) hi' hp10 D2p eD (kd10 _ _ nN eN) nN (by omega) (kd10 _ _ sAp sA9) sAp
            ((sets9.kd hp9 kd10).weak fun xs h => ⟨h.1, by have := h.2.1; omega, h.2.2⟩) fun y H4 g1 g2 g3 => q y H4 g1 g2 g3⟩
        · intro H10 acc10 kd10 hp10 hD10 len10 hall
          obtain ⟨ts, cs, rfl, cl, hcs⟩ := rows_at acc10 zs9 hall
          have clen : cs.length = r5.toNat + 1 := by
            rw [← cl.len, ← List.length_map (f := V.ref), len10, List.length_map]
            show ((ls.length : Nat) : Int).toNat = _
            omega
          have g : GoodQ cs := good_rows (fun e => by rw [e] at clen; simp at clen) (by omega) (by omega) pool16 pz9 hcs
          exact ⟨_, rfl, _, rfl, _, rfl, p, _, rfl, hp10, by decide, by decide, fun r8 H11 r80 r81 kd11 hp11 => ask_good (E := E0) hp (kd7.tr ((Kd.of sT).tr (kd9.tr (kd10.tr kd11)))) hp11 (kd11 _ _ D2p hD10) (cl.kd hp10 kd11).ins g k⟩
end
end K0

/-! ## Q7 -/
set_option maxRecDepth 100000
set_option maxHeartbeats 4000000
namespace K0
open PySem L2 NS
def Lim (pool : List Str) (n : Nat) (xs : List Str) : Prop := 0 < xs.length ∧ xs.length ≤ n ∧ ∀ k ∈ xs, k ∈ pool
def SetR (F : List Str → Prop) (D p : Addr) : Nat → V → Hp → Prop := fun _ y H => ∃ (l : Addr) (xs : List Str), y = V.ref l ∧ l ≠ p ∧ l ≠ D ∧ H l = some (.lst (xs.map V.str)) ∧ F xs
theorem SetR.mono {F : List Str → Prop} {D p : Addr} : ∀ i y H H', SetR F D p i y H → Kd2 p D H H' → SetR F D p i y H' := by
  rintro i y H H' ⟨l, xs, e, n1, n2, h, f⟩ k
  exact ⟨l, xs, e, n1, n2, k _ _ n1 n2 h, f⟩
theorem sets_of {F : List Str → Prop} {D p : Addr} {H : Hp} : ∀ acc : List V, (∀ (i : Nat) (y : V), acc[i]? = some y → SetR F D p i y H) → ∃ ls : List Addr, acc = ls.map V.ref ∧ Sets H ls F
  | [], _ => ⟨[], rfl, fun l h => by cases h⟩
  | y :: acc, h => by
    obtain ⟨l, xs, rfl, _, _, e, f⟩ := h 0 y rfl
    obtain ⟨ls, rfl, r⟩ := sets_of acc fun i u hu => h (i + 1) u hu
    refine ⟨l :: ls, rfl, fun m hm => ?_⟩
    rcases List.mem_cons.mp hm with z | z
    · rw [z]
      exact ⟨xs, e, f⟩
    · exact r m z
theorem at_any {α : Type} {xs : List α} {j : Int} (h0 : -1 ≤ j) (h1 : j < xs.length) (ne : 0 < xs.length) : ∃ x ∈ xs, atI xs j = some x := by
  by_cases c : 0 ≤ j
  · have hj : j.toNat < xs.length := by omega
    have e : atI xs ((j.toNat : Nat) : Int) = some xs[j.toNat] := atI_nat (List.getElem?_eq_getElem hj)
    rw [Int.toNat_of_nonneg c] at e
    exact ⟨_, List.getElem_mem hj, e⟩
  · have ej : j = -1 := by omega
    subst ej
    have hl : xs.length - 1 < xs.length := by omega
    refine ⟨xs[xs.length - 1], List.getElem_mem hl, ?_⟩
    unfold atI ixN
    rw [if_neg (by decide), if_pos (by omega)]
    have e2 : ((-1 : Int) + (xs.length : Int)).toNat = xs.length - 1 := by omega
    rw [e2]
    exact List.getElem?_eq_getElem hl
theorem at_map {xs : List Str} {j : Int} {x : Str} (h : atI xs j = some x) : atI (xs.map V.str) j = some (V.str x) := by
  unfold atI at h ⊢
  rw [List.length_map]
  cases e : ixN xs.length j with
  | none => rw [e] at h; cases h
  | some k =>
    rw [e] at h
    have h2 : xs[k]? = some x := h
    show (xs.map V.str)[k]? = _
    rw [List.getElem?_map, h2]
    rfl
theorem cutV_mid (xs : List Str) (lo hi : Int) (h0 : 0 ≤ lo) (h1 : lo ≤ hi) (h2 : hi ≤ xs.length) : cutV (xs.map V.str) (some lo) (some hi) = ((xs.drop lo.toNat).take (hi.toNat - lo.toNat)).map V.str := by
  obtain ⟨n, rfl⟩ := Int.eq_ofNat_of_zero_le h0
  obtain ⟨m, rfl⟩ := Int.eq_ofNat_of_zero_le (Int.le_trans h0 h1)
  unfold cutV
  have e1 : HT.sIx (xs.map V.str).length 0 (some (n : Int)) = n := by
    rw [HT.sIx_nat, List.length_map]
    have : (n : Int) ≤ (m : Int) := h1
    have : (m : Int) ≤ xs.length := h2
    omega
  have e2 : HT.sIx (xs.map V.str).length (xs.map V.str).length (some (m : Int)) = m := by
    rw [HT.sIx_nat, List.length_map]
    have : (m : Int) ≤ xs.length := h2
    omega
  rw [List.map_take, List.map_drop]
  have e3 : ((n : Int)).toNat = n := rfl
  have e4 : ((m : Int)).toNat = m := rfl
  rw [e3, e4]
  have key : ∀ a b a' b' : Nat, a = a' → b = b' → ((xs.map V.str).drop a).take (b - a) = ((xs.map V.str).drop a').take (b' - a') := by
    rintro a b a' b' rfl rfl
    rfl
  exact key _ _ _ _ e1 e2
theorem if_join {c : Bool} {A : Prop} {R : L2.St → Hp → Prop} {σ : L2.St} {H : Hp} (I : L2.St → Hp → Prop) (h : ∀ σ H, I σ H → R σ H) (h1 : c = true → (∀ σ H, I σ H → R σ H) → A) (h2 : c = false → I σ H) : if c = true then A else R σ H := by
  cases c with
  | true => exact if_pos_of rfl (h1 rfl h)
  | false => exact if_neg_of rfl (h _ _ (h2 rfl))
theorem if_both {c : Bool} {A B : Prop} (h1 : c = true → A) (h2 : c = false → B) : if c = true then A else B := by
  cases c with
  | true => exact if_pos_of rfl (h1 rfl)
  | false => exact if_neg_of rfl (h2 rfl)
def KnotI (H : Hp) (p m kA mA : Addr) (size : Int) (knot more : List Str) (n : Nat) (σ : L2.St) (H' : Hp) : Prop := ∃ (sA : Addr) (ls : List Addr), σ = [some (.ref p), some (.ref m), some (.int size), some (.ref kA), some (.ref mA), some (.ref sA), none, none, none, none] ∧
  Kd p H H' ∧ DiceAt H' p ∧ H' kA = some (.lst (knot.map V.str)) ∧ H' mA = some (.lst (more.map V.str)) ∧ H' sA = some (.lst (ls.map V.ref)) ∧ sA ≠ p ∧ H sA = none ∧ Sets H' ls (Lim (knot ++ more) n) ∧ 3 ≤ ls.length ∧ ls.length ≤ n
theorem ne_content {H : Hp} {a b : Addr} {xs : List Str} {ls : List Addr} (ha : H a = some (.lst (xs.map V.str))) (hb : H b = some (.lst (ls.map V.ref))) (h : 0 < ls.length) : a ≠ b := fun e => by
  rw [e, hb] at ha
  injection ha with ha
  injection ha with ha
  cases ls with
  | nil => cases h
  | cons l ls =>
    cases xs with
    | nil => cases ha
    | cons x xs =>
      injection ha with h1 _
      cases h1
theorem sets_off {H : Hp} {ls ms : List Addr} {F : List Str → Prop} {b : Addr} (s : Sets H ls F) (hb : H b = some (.lst (ms.map V.ref))) (h : 0 < ms.length) : b ∉ ls := fun z => by
  obtain ⟨xs, e, _⟩ := s b z
  exact ne_content e hb h rfl
theorem knot_test {σ : L2.St} {H : Hp} {p : Addr} {v : Int} {K : Bool → Hp → Prop} {tV tP : TE} {E : XK} (hV : ∀ (H : Hp) (Q : VK), Q (.int v) H → tV σ H Q) (hP : ∀ (H : Hp) (Q : VK), Q (.ref p) H → tP σ H Q) (hp : DiceAt H p) (h : ∀ c H', Kd p H H' → DiceAt H' p → K c H') :
    tAnd (tTest (tOp rEq tV (tC (V.int 4)))) (tTest (tOp rEq (tCall spRoll [] E (tCons tP (tCons (tC (V.int 2)) tNil))) (tC (V.int 0)))) σ H K := by
  refine hV _ _ ⟨rfl, _, rfl, if_both (fun _ => ?_) (fun _ => h _ _ Kd.rfl' hp)⟩
  exact hP _ _ ⟨p, _, rfl, hp, by decide, by decide, fun r H' r0 r1 kd hp' => ⟨rfl, _, rfl, h _ _ kd hp'⟩⟩
theorem filter_some {knot : List Str} {g : Str} (n : knot.Nodup) (h : 2 ≤ knot.length) : 0 < (knot.filter fun k => !decide (k = g)).length := by
  match knot, n, h with
  | x :: y :: r, n, _ =>
    have xy : x ≠ y := fun e => (List.nodup_cons.mp n).1 (by rw [e]; exact List.mem_cons_self)
    have : ∃ z ∈ x :: y :: r, z ≠ g := by
      by_cases c : x = g
      · exact ⟨y, List.mem_cons_of_mem _ List.mem_cons_self, fun e => xy (c.trans e.symm)⟩
      · exact ⟨x, List.mem_cons_self, c⟩
    obtain ⟨z, hz, ne⟩ := this
    exact List.length_pos_of_mem (List.mem_filter.mpr ⟨hz, by simp [ne]⟩)
theorem row_step2 {K : PySem.W.Frag} {zs pool : List Str} {D p nA sA : Addr} {ls : List Addr} {σ : L2.St} {tN tAt tS : TE} {i : Nat} {H : Hp} (hN : ∀ (H : Hp) (Q : VK), Q (.ref nA) H → tN σ H Q) (hA : ∀ (H : Hp) (Q : VK), Q (.int (0 + (i : Int))) H → tAt σ H Q)
    (hS : ∀ (H : Hp) (Q : VK), Q (.ref sA) H → tS σ H Q) (hi : i < ls.length) (dc : DiceAt H p) (Dp : D ≠ p) (eD : ∃ acc, H D = some (.lst acc)) (eN : H nA = some (.lst (zs.map V.str))) (hz : ls.length ≤ zs.length)
    (eS : H sA = some (.lst (ls.map V.ref))) (sets : Sets H ls (okCols pool)) {Q : VK} (q : ∀ y H4, Kd p H H4 → DiceAt H4 p → RowAt zs pool D p i y H4 → Q y H4) :
    tTup (tCons (tOp (rIxL K) tN tAt) (tCons (tCB (rTupOf K) (tCons (tOp (rIxL K) tS tAt) tNil)) tNil)) σ H Q := by
  have hiz : i < zs.length := Nat.lt_of_lt_of_le hi hz
  have z0 : (0 + (i : Int)) = ((i : Nat) : Int) := by omega
  have a1 : atI (zs.map V.str) (0 + (i : Int)) = some (V.str zs[i]) := by
    rw [z0]
    exact atI_nat (by rw [List.getElem?_map, List.getElem?_eq_getElem hiz]; rfl)
  have a2 : atI (ls.map V.ref) (0 + (i : Int)) = some (V.ref ls[i]) := by
    rw [z0]
    exact atI_nat (by rw [List.getElem?_map, List.getElem?_eq_getElem hi]; rfl)
  obtain ⟨xs, ex, ok⟩ := sets ls[i] (List.getElem_mem hi)
  refine hN _ _ (hA _ _ ⟨nA, _, _, _, rfl, rfl, SqL.of eN, a1, hS _ _ (hA _ _ ⟨sA, _, _, _, rfl, rfl, SqL.of eS, a2, ls[i], _, rfl, .inl ⟨SqL.of ex, fun t2 ht2 => ⟨by show 2 ≤ sizeLine; decide, fun t ht => ?_⟩⟩⟩)⟩)
  have s3 := K0.Same.new (.tup (xs.map V.str)) ht2
  have s4 := K0.Same.new (.tup [.str zs[i], .ref t2]) ht
  obtain ⟨acc, eD⟩ := eD
  have dice_no : ∀ {H : Hp} {b : Addr}, DiceAt H p → H b = none → b ≠ p := fun {H b} d h e => by
    obtain ⟨x, y, z, u⟩ := d
    rw [e, u] at h
    cases h
  have no : ∀ {H : Hp} {b : Addr}, H D = some (.lst acc) → H b = none → b ≠ D := fun {H b} d h e => by
    rw [e, d] at h
    cases h
  exact q _ _ ((Kd.of s3).tr (Kd.of s4)) ((dc.same s3).same s4) ⟨t, t2, (zs[i], xs), rfl, List.getElem?_eq_getElem hiz, ok,
    dice_no (dc.same s3) ht, no (s3 _ _ eD) ht, dice_no dc ht2, no eD ht2, upd_same, s4 _ _ upd_same⟩
abbrev scGone : Scope := { kind := ScopeKind.function, names := [(".0", NameKind.local), ("_law_gone", NameKind.cell), ("_law_knot", NameKind.cell)], isGenerator := false, isCoroutine := false }
abbrev sKnotted : Stmt := top 42
def spKnotted : Sp := fun vs H Q _ => ∃ (p : Addr), vs = [.ref p] ∧ DiceAt H p ∧ GiveQ H p Q
section
variable {P : Program} {w : World} {K : PySem.W.Frag} {mg : Str → Option Value} {base : Heap} {fR fP fM fN fA : Addr} {fdR fdP fdM fdN fdA : FuncData}
abbrev nKnot : List Str := ["_law_dice_here", "_law_names_here", "_law_size", "_law_knot", "_law_more", "_law_sets", "_law_tables", "_law_at", "_law_one", "_law_gone"]
theorem scKnot : FnScope nKnot ["_law_dice_here"] (defScope sKnotted) := ⟨rfl, rfl, rfl, by decide +kernel, rfl, by decide +kernel, by decide +kernel⟩
theorem ok_knotted {f : Addr} {fd : FuncData} (F : Fun K "_law_knotted" "_law_knotted" sKnotted f fd) (T : TD K mg) (L : LD P w K mg base fR fP fM fN fA fdR fdP fdM fdN fdA) :
    FnOk P w K mg base CX0 4 f fd ["_law_dice_here"] spKnotted := by
  refine F.ok scKnot (fun vs H Q E h => ?_) (fun cdv A outer s H vs Q E hr h => ?_)
  · obtain ⟨p, rfl, _⟩ := h
    rfl
  · obtain ⟨p, rfl, hp, k⟩ := h
    have hr1 : Room 1 _ := hr.mono (by decide)
    have hr2 : Room 2 _ := hr.mono (by decide)
    refine ⟨_, pss_cons (ps_set (i := 1) scKnot.nd rfl (Or.inl rfl) (pe_call L.GM hr2 (by rfl) L.eM.g L.eM.k L.bM .nil pass0 (pa_cons (pv 0) (pa_cons (pe_call0 L.GN hr1 (by rfl) L.eN.g L.eN.k L.bN .nil pass0) pa_nil))))
      (pss_cons (ps_set (i := 2) scKnot.nd rfl (Or.inl rfl) (pe_op op_add pe_int (pe_call L.GR hr1 (by rfl) L.eR.g L.eR.k L.bR .nil pass0 (pa_cons (pv 0) (pa_cons pe_int pa_nil)))))
      (pss_cons (ps_asg (pe_tup (pa_cons (pe_slice sl_list (pv 1) po_none (po_some (pv 2))) (pa_cons (pe_slice sl_list (pv 1) (po_some (pv 2)) (po_some (pe_op op_add (pv 2) pe_int))) pa_nil)))
          (pg_tup rfl (pgs_cons (pg_name (i := 3) scKnot.nd rfl (Or.inr rfl)) (pgs_cons (pg_name (i := 4) scKnot.nd rfl (Or.inr rfl)) pgs_nil))))
      (pss_cons (ps_set (i := 5) scKnot.nd rfl (Or.inr rfl) (pe_lc (own := [("_law_at", 7)]) (g := gName 7) (tt := tYes) rfl scKnot.nd (pi_range1 (by rfl) T.range (pa_cons (pv 2) pa_nil))
          (blkOk_by (own := [("_law_at", 7)]) (N := nKnot) (sc := defScope sKnotted) (by decide +kernel)) (fun _ _ _ _ _ => pg_name (i := 7) scKnot.nd rfl (Or.inl rfl)) (fun _ _ _ _ _ => pts_nil)
          (fun _ _ _ _ _ => pe_lst (pa_cons (pe_ix (r := rIxL K) ix_list (pv 3) (pv 7) (fun _ _ => rfl)) (pa_cons (pe_ix (r := rIxL K) ix_list (pv 3) (pe_op op_sub (pv 7) pe_int) (fun _ _ => rfl)) pa_nil)))))
      (pss_cons (ps_if (PW.pt (pw_and (pt_cmpR op_eq (pv 2) pe_int (nomark _)) (pw_and1 (pt_cmpR op_eq (pe_call L.GR hr1 (by rfl) L.eR.g L.eR.k L.bR .nil pass0 (pa_cons (pv 0) (pa_cons pe_int pa_nil))) pe_int (nomark _)))))
        (pss_one (ps_set (i := 5) scKnot.nd rfl (Or.inr rfl) (pe_lc (own := [("_law_gone", 9)]) (g := gName 9) (tt := tYes) (te := tLc (iList K (tVar 3)) (gName 8) (tTest (tOp rNe (tVar 8) (tVar 9))) (tVar 8) [8]) rfl scKnot.nd (pi_list (pv 3))
          (blkOk_by (own := [("_law_gone", 9)]) (N := nKnot) (sc := defScope sKnotted) (by decide +kernel)) (fun _ _ _ _ _ => pg_name (i := 9) scKnot.nd rfl (Or.inr rfl)) (fun _ _ _ _ _ => pts_nil)
          (fun _ _ _ _ _ => pe_lc (own := [("_law_one", 8)]) (wi := iList K (tVar 3)) (g := gName 8) (tt := tTest (tOp rNe (tVar 8) (tVar 9))) (te := tVar 8) rfl scKnot.nd (pi_list (pv 3))
            (blkOk_by (own := [("_law_one", 8)]) (N := nKnot) (sc := scGone) (by decide +kernel)) (fun _ _ _ _ _ => pg_name (i := 8) scKnot.nd rfl (Or.inl rfl)) (fun _ _ _ _ _ => pts_one (pt_cmpR op_ne (pv 8) (pv 9) (nomark _))) (fun _ _ _ _ _ => pv 8))))) pss_nil)
      (pss_cons (ps_set (i := 5) scKnot.nd rfl (Or.inr rfl) (pe_lc (own := [("_law_one", 8)]) (g := gName 8) (tt := tYes) rfl scKnot.nd (pi_list (pv 5))
          (blkOk_by (own := [("_law_one", 8)]) (N := nKnot) (sc := defScope sKnotted) (by decide +kernel)) (fun _ _ _ _ _ => pg_name (i := 8) scKnot.nd rfl (Or.inl rfl)) (fun _ _ _ _ _ => pts_nil)
          (fun _ _ _ _ _ => pe_ifExp (pt_cmpR op_eq (pe_call L.GR hr1 (by rfl) L.eR.g L.eR.k L.bR .nil pass0 (pa_cons (pv 0) (pa_cons pe_int pa_nil))) pe_int (nomark _))
            (pe_op op_cat (pv 8) (pe_lst (pa_cons (pe_call L.GP hr2 (by rfl) L.eP.g L.eP.k L.bP .nil pass0 (pa_cons (pv 0) (pa_cons (pv 4) pa_nil))) pa_nil))) (pv 8))))
      (pss_cons (ps_if (pt_cmpR op_eq (pe_call L.GR hr1 (by rfl) L.eR.g L.eR.k L.bR .nil pass0 (pa_cons (pv 0) (pa_cons pe_int pa_nil))) pe_int (nomark _))
        (pss_one (ps_expr (pe_bm PySem.F.plainAttrs_list PySem.F.slot_list_append PySem.F.type_list_append mt_append (pv 5) (pa_cons (pe_op op_cat (pe_slice sl_list (pv 4) po_none (po_some pe_int))
          (pe_lst (pa_cons (pe_call L.GP hr2 (by rfl) L.eP.g L.eP.k L.bP .nil pass0 (pa_cons (pv 0) (pa_cons (pv 3) pa_nil))) pa_nil))) pa_nil)))) pss_nil)
      (pss_cons (ps_set (i := 6) scKnot.nd rfl (Or.inr rfl) (pe_call L.GM hr2 (by rfl) L.eM.g L.eM.k L.bM .nil pass0 (pa_cons (pv 0) (pa_cons (pe_callTy (T := "list") (cr_listTx rfl) (by rfl) T.list (by decide +kernel) (pa_cons pe_str pa_nil)) pa_nil))))
      (pss_one (ps_ret (pe_call L.GA hr (by rfl) L.eA.g L.eA.k L.bA .nil pass0 (pa_cons (pv 0) (pa_cons (pe_lc (own := [("_law_at", 7)]) (g := gName 7) (tt := tYes) rfl scKnot.nd (pi_range1 (by rfl) T.range (pa_cons (pe_callB call_len_seq (by rfl) T.len PySem.boot_len (pa_cons (pv 5) pa_nil)) pa_nil))
          (blkOk_by (own := [("_law_at", 7)]) (N := nKnot) (sc := defScope sKnotted) (by decide +kernel)) (fun _ _ _ _ _ => pg_name (i := 7) scKnot.nd rfl (Or.inl rfl)) (fun _ _ _ _ _ => pts_nil)
          (fun _ _ _ _ _ => pe_tup (pa_cons (pe_ix (r := rIxL K) ix_list (pv 6) (pv 7) (fun _ _ => rfl)) (pa_cons (pe_callTy (T := "tuple") (r := rTupOf K) call_tuple_of (by rfl) T.tup (by decide +kernel)
            (pa_cons (pe_ix (r := rIxL K) ix_list (pv 5) (pv 7) (fun _ _ => rfl)) pa_nil)) pa_nil))))
          (pa_cons (pe_call L.GR hr1 (by rfl) L.eR.g L.eR.k L.bR .nil pass0 (pa_cons (pv 0) (pa_cons pe_int pa_nil))) pa_nil))))))))))))), ?_⟩
    refine ⟨_, rfl, rfl, fun a0 ha0 => ?_⟩
    have s0 := K0.Same.new (.lst (names16.map V.str)) ha0
    have hp0 := hp.same s0
    refine ⟨p, a0, _, rfl, hp0, dice_ne hp0 upd_same (no_int _), upd_same, by decide, fun ys m H1 pm hm em kd1 hp1 => ?_⟩
    obtain ⟨zs, rfl, pz⟩ := strs_map_perm pm
    have zl : zs.length = 16 := pz.length_eq
    have zn : zs.Nodup := pz.nodup_iff.mpr (by decide +kernel)
    have mp : m ≠ p := dice_ne hp1 em (no_int _)
    refine ⟨_, rfl, p, _, rfl, hp1, by decide, by decide, fun r H2 r0 r1 kd2 hp2 => ⟨_, _, rfl, rfl, ?_⟩⟩
    have em2 := kd2 _ _ mp em
    refine ⟨_, rfl, _, rfl, _, rfl, m, _, rfl, SqL.of em2, fun kA hkA => ⟨_, rfl, _, rfl, _, rfl, _, rfl, _, _, rfl, rfl, _, rfl, m, _, rfl, SqL.of (K0.Same.new _ hkA _ _ em2), fun mA hmA => ⟨by show 2 ≤ sizeLine; decide, fun t ht => ⟨t, _, rfl, SqT.of upd_same, rfl, _, _, rfl, _, _, rfl, rfl, ?_⟩⟩⟩⟩
    have k1 : cutV (zs.map V.str) none (some (3 + r)) = (zs.take (3 + r).toNat).map V.str := cutV_take zs (3 + r) (by omega) (by omega)
    have k2 : cutV (zs.map V.str) (some (3 + r)) (some (3 + r + 2)) = ((zs.drop (3 + r).toNat).take ((3 + r + 2).toNat - (3 + r).toNat)).map V.str := cutV_mid zs (3 + r) (3 + r + 2) (by omega) (by omega) (by omega)
    have sk := K0.Same.new (.lst (cutV (zs.map V.str) none (some (3 + r)))) hkA
    have sm := K0.Same.new (.lst (cutV (zs.map V.str) (some (3 + r)) (some (3 + r + 2)))) hmA
    have st := K0.Same.new (.tup [V.ref kA, V.ref mA]) ht
    have s3 := K0.Same.tr sk (K0.Same.tr sm st)
    have kd3 : Kd p H _ := ((Kd.of s0).tr kd1).tr (kd2.tr (Kd.of s3))
    have hp3 := hp2.same s3
    have ek := st _ _ (sm _ _ (upd_same (H := H2) (a := kA) (o := .lst (cutV (zs.map V.str) none (some (3 + r))))))
    have emo := st _ _ (upd_same (H := upd H2 kA (.lst (cutV (zs.map V.str) none (some (3 + r))))) (a := mA) (o := .lst (cutV (zs.map V.str) (some (3 + r)) (some (3 + r + 2)))))
    generalize upd (upd (upd H2 kA (.lst (cutV (zs.map V.str) none (some (3 + r))))) mA (.lst (cutV (zs.map V.str) (some (3 + r)) (some (3 + r + 2))))) t (.tup [V.ref kA, V.ref mA]) = H3 at kd3 hp3 ek emo
    rw [k1] at ek
    rw [k2] at emo
    have kl : ((zs.take (3 + r).toNat).length : Int) = 3 + r := by rw [List.length_take]; omega
    have ml : ((zs.drop (3 + r).toNat).take ((3 + r + 2).toNat - (3 + r).toNat)).length = 2 := by rw [List.length_take, List.length_drop]; omega
    have kn : (zs.take (3 + r).toNat).Nodup := List.Nodup.sublist (List.take_sublist _ _) zn
    have kin : ∀ x ∈ zs.take (3 + r).toNat, x ∈ names16 := fun x hx => pz.mem_iff.mp (List.mem_of_mem_take hx)
    have min : ∀ x ∈ (zs.drop (3 + r).toNat).take ((3 + r + 2).toNat - (3 + r).toNat), x ∈ names16 := fun x hx => pz.mem_iff.mp (List.mem_of_mem_drop (List.mem_of_mem_take hx))
    generalize zs.take (3 + r).toNat = knot at ek kl kn kin
    generalize (zs.drop (3 + r).toNat).take ((3 + r + 2).toNat - (3 + r).toNat) = more at emo ml min
    have kAp : kA ≠ p := dice_ne hp3 ek (no_int _)
    have mAp : mA ≠ p := dice_ne hp3 emo (no_int _)
    have pool16 : ∀ x ∈ knot ++ more, x ∈ names16 := fun x hx => (List.mem_append.mp hx).elim (kin x) (min x)
    have pool8 : (knot ++ more).length ≤ 8 := by rw [List.length_append]; omega
    have inK : ∀ x ∈ knot, x ∈ knot ++ more := fun x hx => List.mem_append_left _ hx
    have inM : ∀ x ∈ more, x ∈ knot ++ more := fun x hx => List.mem_append_right _ hx
    refine ⟨_, rfl, 3 + r, rfl, by omega, by omega, fun D hD => lc_rollR (p := p) walk_range (SetR (Lim (knot ++ more) 2) D p) SetR.mono (small1000 (by omega)) hD hp3 (fun _ _ _ => True.intro) ?_ gName_mono ?_⟩
    · rintro i x H4 H5 hi kd4 hp4 ⟨acc, eD⟩ ⟨rfl, rfl⟩
      have ek4 := kd4 _ _ kAp ek
      have kp : 0 < knot.length := by omega
      obtain ⟨x1, hx1, a1⟩ := at_any (xs := knot) (j := 0 + (i : Int)) (by omega) (by omega) kp
      obtain ⟨x2, hx2, a2⟩ := at_any (xs := knot) (j := 0 + (i : Int) - 1) (by omega) (by omega) kp
      refine ⟨rfl, fun Q' q => ⟨_, rfl, _, rfl, kA, _, _, _, rfl, rfl, SqL.of ek4, at_map a1, _, rfl, _, rfl, _, _, rfl, rfl, kA, _, _, _, rfl, rfl, SqL.of ek4, at_map a2, by show 2 ≤ sizeLine; decide, fun l hl => ?_⟩⟩
      refine q _ _ (Kd.of (K0.Same.new _ hl)) (hp4.same (K0.Same.new _ hl)) ⟨l, [x1, x2], rfl, ?_, ?_, upd_same, by show 0 < 2; decide, by show 2 ≤ 2; decide, fun k hk => ?_⟩
      · intro e
        obtain ⟨x, y, z, u⟩ := hp4
        rw [e, u] at hl
        cases hl
      · intro e
        rw [e, eD] at hl
        cases hl
      · rcases List.mem_cons.mp hk with z | z
        · rw [z]; exact inK _ hx1
        · rw [List.mem_singleton.mp z]; exact inK _ hx2
    · intro H4 acc kd4 hp4 hD4 len4 hall
      obtain ⟨ls, rfl, sets4⟩ := sets_of acc hall
      rw [List.length_map] at len4
      have Dp : D ≠ p := fun e => by
        obtain ⟨x, y, z, u⟩ := hp3
        rw [← e, hD] at u
        cases u
      have hD0 : H D = none := none_kd hp hp3 kd3 hD
      have llen : (ls.length : Int) = 3 + r := by
        have z : (3 + r).toNat = ls.length := len4.symm
        omega
      dsimp only [gName, tSeq, tIfS]
      refine knot_test (p := p) (v := 3 + r) (fun H Q q => ⟨_, rfl, q⟩) (fun H Q q => ⟨_, rfl, q⟩) hp4 fun c H5 kd5 hp5 => ?_
      have ek5 := kd5 _ _ kAp (kd4 _ _ kAp ek)
      have em5 := kd5 _ _ mAp (kd4 _ _ mAp emo)
      have kd05 := kd3.tr (kd4.tr kd5)
      refine if_join (KnotI H p m kA mA (3 + r) knot more 5) ?_ (fun hc rest => ?_) (fun hc => ?_)
      · rintro σ H6 ⟨sA, ls6, rfl, kd6, hp6, ek6, em6, es6, sAp, sA0, sets6, l60, l61⟩
        refine ⟨_, rfl, sA, rfl, ⟨_, SqL.of es6⟩, fun D2 hD2 => lc_rollR (p := p) walk_list (SetR (Lim (knot ++ more) 6) D2 p) SetR.mono (small1000 (by rw [List.length_map]; omega)) hD2 hp6 (fun H7 kd7 _ => SqL.of (kd7 _ _ sAp es6)) ?_ gName_mono ?_⟩
        · rintro i x H7' H7 hi kd7 hp7 ⟨acc, eD⟩ ⟨rfl, hx⟩
          rw [List.getElem?_map] at hx
          obtain ⟨l, hl, rfl⟩ := Option.map_eq_some_iff.mp hx
          obtain ⟨xs, ex, f0, f1, f2⟩ := sets6 l (List.mem_of_getElem? hl)
          have lp : l ≠ p := dice_ne hp6 ex (no_int _)
          have lD : l ≠ D2 := ne_of_none ex hD2
          have D2p : D2 ≠ p := fun e => by
            obtain ⟨x, y, z, u⟩ := hp6
            rw [← e, hD2] at u
            cases u
          refine ⟨rfl, fun Q' q => ⟨_, rfl, p, _, rfl, hp7, by decide, by decide, fun r8 H8 r80 r81 kd8 hp8 => ⟨rfl, _, rfl, if_both (fun _ => ?_) (fun _ => ?_)⟩⟩⟩
          · have em8 := kd8 _ _ mAp (kd7 _ _ mAp em6)
            refine ⟨_, rfl, _, rfl, _, rfl, p, mA, _, rfl, hp8, mAp, em8, by rw [List.length_map]; omega, by rw [List.length_map]; omega, fun v H9 hv kd9 hp9 => ⟨by show 1 ≤ sizeLine; decide, fun b hb => ?_⟩⟩
            obtain ⟨y, hy, rfl⟩ := List.mem_map.mp hv
            have sb := K0.Same.new (.lst [V.str y]) hb
            have ex9 := sb _ _ (kd9 _ _ lp (kd8 _ _ lp (kd7 _ _ lp ex)))
            have eD9 := sb _ _ (kd9 _ _ D2p (kd8 _ _ D2p eD))
            refine ⟨l, b, _, _, rfl, rfl, ex9, upd_same, by rw [List.length_map, sizeLine_eq]; simp only [List.length_cons, List.length_nil]; omega, fun c hc => ?_⟩
            have sc := K0.Same.new (.lst (xs.map V.str ++ [V.str y])) hc
            have cp : c ≠ p := fun e => by
              obtain ⟨x, y, z, u⟩ := hp9.same sb
              rw [e, u] at hc
              cases hc
            have cD : c ≠ D2 := (ne_of_none eD9 hc).symm
            exact q _ _ (kd8.tr (kd9.tr ((Kd.of sb).tr (Kd.of sc)))) ((hp9.same sb).same sc) ⟨c, xs ++ [y], rfl, cp, cD, by rw [upd_same, List.map_append]; rfl, by rw [List.length_append]; omega, by rw [List.length_append]; simp only [List.length_cons, List.length_nil]; omega, fun k hk => by
              rcases List.mem_append.mp hk with z | z
              · exact f2 k z
              · rw [List.mem_singleton.mp z]
                exact inM y hy⟩
          · exact ⟨_, rfl, q _ _ kd8 hp8 ⟨l, xs, rfl, lp, lD, kd8 _ _ lp (kd7 _ _ lp ex), f0, by omega, f2⟩⟩
        · intro H7 acc kd7 hp7 hD7 len7 hall
          obtain ⟨ls7, rfl, sets7⟩ := sets_of acc hall
          rw [List.length_map, List.length_map] at len7
          have D2p : D2 ≠ p := fun e => by
            obtain ⟨x, y, z, u⟩ := hp6
            rw [← e, hD2] at u
            cases u
          have D20 : H D2 = none := none_kd hp hp6 kd6 hD2
          refine ⟨_, rfl, p, _, rfl, hp7, by decide, by decide, fun r8 H8 r80 r81 kd8 hp8 => ⟨rfl, _, rfl, if_join (KnotI H p m kA mA (3 + r) knot more 6) ?_ (fun hc rest => ?_) (fun hc => ?_)⟩⟩
          · rintro σ H9 ⟨sB, ls9, rfl, kd9, hp9, ek9, em9, es9, sBp, sB0, sets9, l90, l91⟩
            refine ⟨_, rfl, tabLine, rfl, by decide +kernel, fun tA htA => ?_⟩
            have sT := K0.Same.new (.lst ((lettersOf tabLine).map V.str)) htA
            have hpT := hp9.same sT
            refine ⟨p, tA, _, rfl, hpT, dice_ne hpT upd_same (no_int _), upd_same, by decide +kernel, fun ys nA H11 pm11 hm11 eN kd11 hp11 => ?_⟩
            obtain ⟨zs11, rfl, pz11⟩ := strs_map_perm pm11
            have z8 : zs11.length = 8 := pz11.length_eq.trans tab_len
            have nN : nA ≠ p := dice_ne hp11 eN (no_int _)
            have sB11 := kd11 _ _ sBp (sT _ _ es9)
            have sets11 := (sets9.same sT).kd hpT kd11
            refine ⟨_, rfl, _, rfl, sB, _, rfl, .inl (SqL.of sB11), _, rfl, by omega, by rw [List.length_map]; omega, fun D3 hD3 => ?_⟩
            have D3p : D3 ≠ p := fun e => by
              obtain ⟨x, y, z, u⟩ := hp11
              rw [← e, hD3] at u
              cases u
            refine lc_rollR (p := p) walk_range (RowAt zs11 (knot ++ more) D3 p) RowAt.mono (small1000 (by rw [List.length_map]; omega)) hD3 hp11 (fun _ _ _ => True.intro) ?_ gName_mono ?_
            · rintro i x H12' H12 hi kd12 hp12 eD ⟨rfl, rfl⟩
              have hi' : i < ls9.length := by
                have z : ((((ls9.map V.ref).length : Nat) : Int)).toNat = ls9.length := by rw [List.length_map]; rfl
                omega
              refine ⟨rfl, fun Q' q => row_step2 (zs := zs11) (pool := knot ++ more) (nA := nA) (sA := sB) (i := i) (fun H Q q => ⟨_, rfl, q⟩) (fun H Q q => ⟨_, rfl, q⟩) (fun H Q q => ⟨_, rfl, q⟩) hi' hp12 D3p eD (kd12 _ _ nN eN) (by omega) (kd12 _ _ sBp sB11)
                ((sets11.kd hp11 kd12).weak fun xs h => ⟨h.1, by have := h.2.1; omega, h.2.2⟩) fun y H4 g1 g2 g3 => q y H4 g1 g2 g3⟩
            · intro H12 acc12 kd12 hp12 hD12 len12 hall12
              obtain ⟨ts, cs, rfl, cl, hcs⟩ := rows_at acc12 zs11 hall12
              have clen : cs.length = ls9.length := by
                rw [← cl.len, ← List.length_map (f := V.ref), len12, List.length_map]
                rfl
              have g : GoodQ cs := good_rows (fun e => by rw [e] at clen; simp at clen; omega) (by omega) pool8 pool16 pz11 hcs
              exact ⟨_, rfl, p, _, rfl, hp12, by decide, by decide, fun r13 H13 r130 r131 kd13 hp13 => ask_good (E := E0) hp (kd9.tr ((Kd.of sT).tr (kd11.tr (kd12.tr kd13)))) hp13 (kd13 _ _ D3p hD12) (cl.kd hp12 kd13).ins g k⟩
          · have em8 := kd8 _ _ mAp (kd7 _ _ mAp em6)
            have hD8 := kd8 _ _ D2p hD7
            refine ⟨_, rfl, .inl ⟨rfl, _, SqL.of hD8⟩, _, rfl, 1, rfl, mA, _, rfl, SqL.of em8, fun c hc => ?_⟩
            have e1 : cutV (more.map V.str) none (some (1 : Int)) = (more.take 1).map V.str := cutV_take more 1 (by decide) (by omega)
            rw [e1]
            have sc := K0.Same.new (.lst ((more.take 1).map V.str)) hc
            have ec : upd H8 c (.lst ((more.take 1).map V.str)) c = some (.lst ((more.take 1).map V.str)) := upd_same
            have hpc := hp8.same sc
            have cp : c ≠ p := dice_ne hpc ec (no_int _)
            have ekc := sc _ _ (kd8 _ _ kAp (kd7 _ _ kAp ek6))
            refine ⟨_, rfl, _, rfl, p, kA, _, rfl, hpc, kAp, ekc, by rw [List.length_map]; omega, by rw [List.length_map]; omega, fun v H9 hv kd9 hp9 => ⟨by show 1 ≤ sizeLine; decide, fun b hb => ?_⟩⟩
            obtain ⟨y, hy, rfl⟩ := List.mem_map.mp hv
            have sb := K0.Same.new (.lst [V.str y]) hb
            refine ⟨c, b, _, _, rfl, rfl, sb _ _ (kd9 _ _ cp ec), upd_same, by rw [List.length_map, List.length_take, sizeLine_eq]; simp only [List.length_cons, List.length_nil]; omega, fun e he => ?_⟩
            have se := K0.Same.new (.lst ((more.take 1).map V.str ++ [V.str y])) he
            have kdA : Kd p H8 _ := (Kd.of sc).tr (kd9.tr ((Kd.of sb).tr (Kd.of se)))
            have hpe := ((hp9.same sb).same se)
            have hDe := kdA _ _ D2p hD8
            have eke := kdA _ _ kAp (kd8 _ _ kAp (kd7 _ _ kAp ek6))
            have eme := kdA _ _ mAp em8
            have setse := (sets7.kd hp7 kd8).kd hp8 kdA
            have l7 : 0 < ls7.length := by omega
            have eD2 : e ≠ D2 := (ne_of_none (sb _ _ (kd9 _ _ D2p (sc _ _ hD8))) he).symm
            have nin : D2 ∉ ls7 ++ [e] := fun z => by
              rcases List.mem_append.mp z with z | z
              · exact sets_off setse hDe l7 z
              · exact eD2 (List.mem_singleton.mp z).symm
            refine ⟨D2, _, _, rfl, rfl, hDe, small1000 (by rw [List.length_map]; omega), rest _ _ ⟨D2, ls7 ++ [e], rfl, fun b' o nb eo => ?_, hpe.up D2p.symm, ?_, ?_, by rw [upd_same, List.map_append]; rfl, D2p, D20, ?_, by rw [List.length_append]; omega, by rw [List.length_append]; simp only [List.length_cons, List.length_nil]; omega⟩⟩
            · rw [upd_ne (ne_of_none eo D20)]
              exact kdA _ _ nb (kd8 _ _ nb (kd7 _ _ nb (kd6 _ _ nb eo)))
            · rw [upd_ne (ne_content eke hDe l7)]
              exact eke
            · rw [upd_ne (ne_content eme hDe l7)]
              exact eme
            · refine (setse.snoc (l := e) (xs := more.take 1 ++ [y]) (by show _ = _; rw [upd_same, List.map_append]; rfl) ⟨by rw [List.length_append]; simp only [List.length_cons, List.length_nil]; omega, by rw [List.length_append, List.length_take]; simp only [List.length_cons, List.length_nil]; omega, fun k hk => ?_⟩).off nin
              rcases List.mem_append.mp hk with z | z
              · exact inM k (List.mem_of_mem_take z)
              · rw [List.mem_singleton.mp z]
                exact inK y hy
          · exact ⟨D2, ls7, rfl, kd6.tr (kd7.tr kd8), hp8, kd8 _ _ kAp (kd7 _ _ kAp ek6), kd8 _ _ mAp (kd7 _ _ mAp em6), kd8 _ _ D2p hD7, D2p, D20, sets7.kd hp7 kd8, by omega, by omega⟩
      · refine ⟨_, rfl, kA, rfl, ⟨_, SqL.of ek5⟩, fun D2 hD2 => lc_rollR (p := p) walk_list (SetR (Lim (knot ++ more) 5) D2 p) SetR.mono (small1000 (by rw [List.length_map]; omega)) hD2 hp5 (fun H6 kd6 _ => SqL.of (kd6 _ _ kAp ek5)) ?_ gName_mono ?_⟩
        · rintro i x H6' H6 hi kd6 hp6 ⟨acc, eD⟩ ⟨rfl, hx⟩
          rw [List.getElem?_map] at hx
          obtain ⟨gone, hg, rfl⟩ := Option.map_eq_some_iff.mp hx
          have ek6 := kd6 _ _ kAp ek5
          refine ⟨rfl, fun Q' q => ⟨_, rfl, kA, rfl, ⟨_, SqL.of ek6⟩, fun D3 hD3 => lc_it walk_list (fun i H' => Same H6 H' ∧ H' D3 = some (.lst (((knot.take i).filter fun k => !decide (k = gone)).map V.str)))
            ⟨K0.Same.new _ hD3, upd_same⟩ (fun i H' _ s => SqL.of (s.1 _ _ ek6)) ?_ ?_⟩⟩
          · rintro j y H8' H8 hj ⟨s8, e8⟩ ⟨rfl, hy⟩
            rw [List.getElem?_map] at hy
            obtain ⟨one, ho, rfl⟩ := Option.map_eq_some_iff.mp hy
            have tk : knot.take (j + 1) = knot.take j ++ [one] := by rw [List.take_add_one, ho]; rfl
            refine ⟨rfl, _, rfl, _, rfl, rfl, _, rfl, if_both (fun h => ?_) (fun h => ?_)⟩
            · have ne : (!decide (one = gone)) = true := by
                have z : decide (V.str one = V.str gone) = false := by
                  cases q : decide (V.str one = V.str gone) with
                  | false => rfl
                  | true => rw [q] at h; cases h
                have z2 : ¬ one = gone := fun e => absurd (decide_eq_true (congrArg V.str e)) (by rw [z]; exact Bool.false_ne_true)
                simp [z2]
              have fl := List.length_filter_le (fun k => !decide (k = gone)) (knot.take j)
              have fl2 := List.length_take_le j knot
              have fl3 : (knot.take j).length ≤ knot.length := by rw [List.length_take]; omega
              refine ⟨_, rfl, _, e8, by rw [List.length_map, sizeLine_eq]; omega, fun b o e => ?_, ?_⟩
              · rw [upd_ne (ne_of_none e hD3)]
                exact s8 _ _ e
              · rw [upd_same, tk, List.filter_append, List.map_append]
                simp only [List.filter_cons, ne, if_true, List.filter_nil]
                rfl
            · have ne : (!decide (one = gone)) = false := by
                have z : decide (V.str one = V.str gone) = true := by
                  cases q : decide (V.str one = V.str gone) with
                  | true => rfl
                  | false => rw [q] at h; cases h
                have z2 := of_decide_eq_true z
                injection z2 with z2
                simp [z2]
              refine ⟨s8, ?_⟩
              rw [tk, List.filter_append, e8]
              simp only [List.filter_cons, ne, List.filter_nil]
              simp
          · rintro H8 ⟨s8, e8⟩
            rw [List.length_map, List.take_length] at e8
            have D3p : D3 ≠ p := fun e => by
              obtain ⟨x, y, z, u⟩ := hp6
              rw [← e, hD3] at u
              cases u
            have D3D : D3 ≠ D2 := fun e => by
              rw [e, eD] at hD3
              cases hD3
            have fl := List.length_filter_le (fun k => !decide (k = gone)) knot
            exact q _ _ (Kd.of s8) (hp6.same s8) ⟨D3, _, rfl, D3p, D3D, e8, filter_some kn (by omega), by omega, fun k hk => inK k (List.mem_filter.mp hk).1⟩
        · intro H6 acc2 kd6 hp6 hD6 len6 hall2
          obtain ⟨ls2, rfl, sets62⟩ := sets_of acc2 hall2
          rw [List.length_map, List.length_map] at len6
          have D2p : D2 ≠ p := fun e => by
            obtain ⟨x, y, z, u⟩ := hp5
            rw [← e, hD2] at u
            cases u
          exact rest _ _ ⟨D2, ls2, rfl, kd05.tr kd6, hp6, kd6 _ _ kAp ek5, kd6 _ _ mAp em5, hD6, D2p, none_kd hp hp5 kd05 hD2, sets62, by omega, by omega⟩
      · exact ⟨D, ls, rfl, kd05, hp5, ek5, em5, kd5 _ _ Dp hD4, Dp, hD0, (sets4.kd hp4 kd5).weak fun xs h => ⟨h.1, by have := h.2.1; omega, h.2.2⟩, by omega, by omega⟩
end
end K0

/-! ## Q8 -/
set_option maxRecDepth 100000
set_option maxHeartbeats 4000000
namespace K0
open PySem L2 NS
abbrev sAny : Stmt := top 43
def spAny : Sp := fun vs H Q _ => ∃ (p : Addr) (most : Int), vs = [.ref p, .int most] ∧ DiceAt H p ∧ 1 ≤ most ∧ most ≤ 7 ∧ GiveQ H p Q
def wr : Nat → List (Str × Str) × List Str
  | 0 => ([("r", "ab"), ("s", "bc")], ["a", "c"])
  | 1 => ([("r", "ab"), ("s", "bc"), ("t", "ac")], [])
  | 2 => ([("r", "ab"), ("r", "cb")], ["a"])
  | 3 => ([("r", "ab"), ("s", "bc"), ("t", "cd"), ("u", "ad")], ["a", "b", "c", "d"])
  | 4 => ([("r", "ab"), ("s", "ac"), ("t", "ad")], ["a"])
  | 5 => ([("r", "ab"), ("s", "bc"), ("t", "ac"), ("u", "abc")], ["c"])
  | 6 => ([("r", "ab"), ("s", "cd")], ["d", "a"])
  | 7 => ([("r", "aab"), ("s", "bb")], ["b"])
  | 8 => ([("r", "bcd"), ("s", "acd"), ("t", "abd"), ("u", "abc")], [])
  | _ => ([("r", "a")], ["a"])
def toC (x : Str × Str) : CL := (x.1, lettersOf x.2)
/-- a written question -/
def wq (n : Nat) : PQ := ⟨(wr n).1.map toC, (wr n).2⟩
def spWritten : Sp := fun vs H Q _ => ∃ n : Nat, vs = [.int n] ∧ n < 10 ∧ ∀ H' d, Same H H' → H d = none → PlA H' d (wq n) → Q (.ref d) H'
def tPairs : List (Str × Str) → L2.TA
  | [] => tNil
  | x :: r => tCons (tTup (tCons (tC (.str x.1)) (tCons (tC (.str x.2)) tNil))) (tPairs r)
def tStrs : List Str → L2.TA
  | [] => tNil
  | x :: r => tCons (tC (.str x)) (tStrs r)
theorem strs_run {σ : L2.St} {H : Hp} : ∀ (l : List Str) (Q : List V → Hp → Prop), Q (l.map V.str) H → tStrs l σ H Q
  | [], _, q => q
  | _ :: r, Q, q => strs_run r (fun xs H => Q (_ :: xs) H) q
theorem pairs_run {σ : L2.St} : ∀ (l : List (Str × Str)) (H : Hp) (Q : List V → Hp → Prop), (∀ x ∈ l, x.2.cps.size ≤ 1000) → (∀ ts H', Same H H' → Ins H' ts (l.map toC) → Q (ts.map V.ref) H') → tPairs l σ H Q
  | [], H, Q, _, q => q [] H (fun _ _ h => h) .nil
  | x :: r, H, Q, small, q => by
    refine ⟨by show 2 ≤ sizeLine; decide, fun t ht => ?_⟩
    have s := K0.Same.new (.tup [.str x.1, .str x.2]) ht
    refine pairs_run r _ _ (fun y hy => small y (List.mem_cons_of_mem _ hy)) fun ts H' s2 hin => ?_
    exact q (t :: ts) H' (K0.Same.tr s s2) (.cons ⟨.str x.2, s2 _ _ upd_same, .inl ⟨x.2, rfl, rfl, small x List.mem_cons_self⟩⟩ hin)
/-- lists that ascend are one list, if they have the same clauses -/
theorem sorted_one : ∀ {l m : List CL}, l.Pairwise (fun c c' => ltC c c' = true) → m.Pairwise (fun c c' => ltC c c' = true) → (∀ c, c ∈ l ↔ c ∈ m) → l = m := by
  intro l
  induction l with
  | nil =>
    intro m _ _ h
    cases m with
    | nil => rfl
    | cons c m => exact absurd ((h c).mpr List.mem_cons_self) (by simp)
  | cons a l ih =>
    intro m pl pm h
    cases m with
    | nil => exact absurd ((h a).mp List.mem_cons_self) (by simp)
    | cons b m =>
      obtain ⟨a1, a2⟩ := List.pairwise_cons.mp pl
      obtain ⟨b1, b2⟩ := List.pairwise_cons.mp pm
      have ab : a = b := by
        rcases List.mem_cons.mp ((h a).mp List.mem_cons_self) with e | e
        · exact e
        · rcases List.mem_cons.mp ((h b).mpr List.mem_cons_self) with e2 | e2
          · exact e2.symm
          · have z := ltC_tr (b1 a e) (a1 b e2)
            rw [ltC_irr] at z
            cases z
      subst ab
      refine congrArg (a :: ·) (ih a2 b2 fun c => ⟨fun hc => ?_, fun hc => ?_⟩)
      · rcases List.mem_cons.mp ((h c).mp (List.mem_cons_of_mem _ hc)) with e | e
        · have z := a1 c hc
          rw [e, ltC_irr] at z
          cases z
        · exact e
      · rcases List.mem_cons.mp ((h c).mpr (List.mem_cons_of_mem _ hc)) with e | e
        · have z := b1 c hc
          rw [e, ltC_irr] at z
          cases z
        · exact e
theorem run_q {l : List (Str × Str)} {as : List Str} {σ : L2.St} {H : Hp} {Q : VK} {E : XK} (few : l.length < 64) (al : as.length < 64) (small : ∀ x ∈ l, x.2.cps.size ≤ 1000) (up : (l.map toC).Pairwise fun c c' => ltC c c' = true)
    (k : ∀ H' d, Same H H' → H d = none → PlA H' d ⟨l.map toC, as⟩ → Q (.ref d) H') : tCall spQuest [] E (tCons (tLst (tPairs l)) (tCons (tLst (tStrs as)) tNil)) σ H Q := by
  refine pairs_run l H _ small fun ts H1 s1 hin => ?_
  have tl : ts.length = l.length := by rw [hin.len, List.length_map]
  refine ⟨by rw [List.length_map, sizeLine_eq]; omega, fun a ha => ?_⟩
  have sa := K0.Same.new (.lst (ts.map V.ref)) ha
  refine strs_run as _ ⟨by rw [List.length_map, sizeLine_eq]; omega, fun b hb => ?_⟩
  have sb := K0.Same.new (.lst (as.map V.str)) hb
  refine ⟨a, b, ts, l.map toC, as, rfl, sb _ _ upd_same, (hin.same sa).same sb, upd_same, by omega, fun cs' H' d s hd pl pw mem => ?_⟩
  rw [sorted_one pw up mem] at pl
  have sab := K0.Same.tr s1 (K0.Same.tr sa sb)
  exact k H' d (K0.Same.tr sab s) (none_back sab hd) pl
/-- a written question is a good one -/
def upB : List CL → Bool
  | [] => true
  | c :: cs => cs.all (fun c' => ltC c c') && upB cs
theorem up_of : ∀ {cs : List CL}, upB cs = true → cs.Pairwise fun c c' => ltC c c' = true
  | [], _ => .nil
  | c :: cs, h => by
    rw [upB, Bool.and_eq_true, List.all_eq_true] at h
    exact .cons h.1 (up_of h.2)
def abcd : List Str := ["a", "b", "c", "d"]
theorem wq_up : ∀ n < 10, upB (wq n).cls = true := by decide +kernel
theorem wq_good {n : Nat} (h : n < 10) : GoodP (wq n) where
  cls := {
    some_ := (by decide +kernel : ∀ n < 10, (wq n).cls ≠ []) n h
    few := (by decide +kernel : ∀ n < 10, (wq n).cls.length ≤ 7) n h
    tab := (by decide +kernel : ∀ n < 10, ∀ c ∈ (wq n).cls, c.1 ∈ tabs8) n h
    wide := (by decide +kernel : ∀ n < 10, ∀ c ∈ (wq n).cls, 0 < c.2.length ∧ c.2.length ≤ 8) n h
    same := (by decide +kernel : ∀ n < 10, ∀ c ∈ (wq n).cls, ∀ c' ∈ (wq n).cls, c.1 = c'.1 → c.2.length = c'.2.length) n h
    cols := ⟨abcd, by decide, (by decide +kernel : ∀ k ∈ abcd, k ∈ names16), (by decide +kernel : ∀ n < 10, ∀ c ∈ (wq n).cls, ∀ k ∈ c.2, k ∈ abcd) n h⟩ }
  up := up_of (wq_up n h)
  nd := (by decide +kernel : ∀ n < 10, (wq n).asked.Nodup) n h
  ask := (by decide +kernel : ∀ n < 10, ∀ k ∈ (wq n).asked, k ∈ colsIn (wq n).cls) n h
section
variable {P : Program} {w : World} {K : PySem.W.Frag} {mg : Str → Option Value} {base : Heap} {fR fT fK fD fQ : Addr} {fdR fdT fdK fdD fdQ : FuncData}
theorem scAny : FnScope ["_law_dice_here", "_law_most", "_law_way"] ["_law_dice_here", "_law_most"] (defScope sAny) := ⟨rfl, rfl, rfl, by decide +kernel, rfl, by decide +kernel, by decide +kernel⟩
theorem ok_any {f : Addr} {fd : FuncData} (F : Fun K "_law_any" "_law_any" sAny f fd)
    (eR : Gl K mg "_law_roll" fR) (GR : FnOk P w K mg base CX0 1 fR fdR ["_law_dice_here", "_law_total"] spRoll) (bR : Binds K fdR ["_law_dice_here", "_law_total"] [])
    (eT : Gl K mg "_law_tree" fT) (GT : FnOk P w K mg base CX0 4 fT fdT ["_law_dice_here", "_law_most"] spTree) (bT : Binds K fdT ["_law_dice_here", "_law_most"] [])
    (eK : Gl K mg "_law_knotted" fK) (GK : FnOk P w K mg base CX0 4 fK fdK ["_law_dice_here"] spKnotted) (bK : Binds K fdK ["_law_dice_here"] [])
    (eD : Gl K mg "_law_drawn" fD) (GD : FnOk P w K mg base CX0 4 fD fdD ["_law_dice_here", "_law_most", "_law_width", "_law_is_plain"] spDrawn) (bD : Binds K fdD ["_law_dice_here", "_law_most", "_law_width", "_law_is_plain"] []) :
    FnOk P w K mg base CX0 5 f fd ["_law_dice_here", "_law_most"] spAny := by
  refine F.ok scAny (fun vs H Q E h => ?_) (fun cdv A outer s H vs Q E hr h => ?_)
  · obtain ⟨p, most, rfl, _⟩ := h
    rfl
  · obtain ⟨p, most, rfl, hp, m0, m1, k⟩ := h
    have hr1 : Room 1 _ := hr.mono (by decide)
    refine ⟨_, pss_cons (ps_set (i := 2) scAny.nd rfl (Or.inl rfl) (pe_call GR hr1 (by rfl) eR.g eR.k bR .nil pass0 (pa_cons (pv 0) (pa_cons pe_int pa_nil))))
      (pss_cons (ps_if (pt_cmpR op_eq (pv 2) pe_int (nomark _)) (pss_one (ps_ret (pe_call GT hr (by rfl) eT.g eT.k bT .nil pass0 (pa_cons (pv 0) (pa_cons (pv 1) pa_nil))))) pss_nil)
      (pss_cons (ps_if (pt_cmpR op_eq (pv 2) pe_int (nomark _)) (pss_one (ps_ret (pe_call GK hr (by rfl) eK.g eK.k bK .nil pass0 (pa_cons (pv 0) pa_nil)))) pss_nil)
      (pss_one (ps_ret (pe_call GD hr (by rfl) eD.g eD.k bD .nil pass0 (pa_cons (pv 0) (pa_cons (pv 1) (pa_cons (pe_op op_add pe_int (pe_call GR hr1 (by rfl) eR.g eR.k bR .nil pass0 (pa_cons (pv 0) (pa_cons pe_int pa_nil)))) (pa_cons (pe_cmpR op_eq (pv 2) pe_int (nomark _)) pa_nil)))))))))
      , ?_⟩
    refine ⟨_, rfl, p, _, rfl, hp, by decide, by decide, fun r H1 r0 r1 kd1 hp1 => ?_⟩
    have give : ∀ {H' : Hp}, Kd p H H' → DiceAt H' p → GiveQ H' p Q := fun kd hp' q H2 d g kd2 hp2 hd pl => k q H2 d g (kd.tr kd2) hp2 (none_kd hp hp' kd hd) pl
    refine ⟨_, rfl, rfl, _, rfl, if_both (fun _ => ?_) (fun _ => ?_)⟩
    · exact ⟨_, rfl, _, rfl, p, most, rfl, hp1, m0, m1, give kd1 hp1⟩
    · refine ⟨_, rfl, rfl, _, rfl, if_both (fun _ => ?_) (fun _ => ?_)⟩
      · exact ⟨_, rfl, p, rfl, hp1, give kd1 hp1⟩
      · exact ⟨_, rfl, _, rfl, _, rfl, p, _, rfl, hp1, by decide, by decide, fun r2 H2 r20 r21 kd2 hp2 => ⟨_, _, rfl, rfl, _, rfl, rfl, p, most, _, _, rfl, hp2, m0, m1, by omega, by omega, give (kd1.tr kd2) hp2⟩⟩
end
end K0

/-! ## Q9 -/
set_option maxRecDepth 100000
set_option maxHeartbeats 2000000
namespace K0
open PySem L2 NS
/-! ### is_clause -/
abbrev sIsCl : Stmt := top 21
def widB (n : Nat) : Bool := decide (1 ≤ n) && decide (n ≤ 8)
/-- whether a value is a clause, for the values that are met -/
inductive ClV (K : PySem.W.Frag) (H : Hp) : V → Bool → Prop
  | other {v : V} {t : Value} (h : TyX K H v t) (k : PySem.W.kitOne K t (.type "tuple") = some false) : ClV K H v false
  | size {a : Addr} {xs : List V} (h : H a = some (.tup xs)) (n : xs.length ≠ 2) : ClV K H (.ref a) false
  | pair {a : Addr} {x y : V} (h : H a = some (.tup [x, y])) (dx : Da H x) (sx : Sz x) (dy : Da H y) (ty : Tu H y) : ClV K H (.ref a) (nameV x && (onTup H (fun ys => ys.all nameV) y && onTup H (fun ys => widB ys.length) y))
/-- whether a value is a tuple of two, for the values that are met -/
inductive PrV (K : PySem.W.Frag) (H : Hp) : V → Bool → Prop
  | other {v : V} {t : Value} (h : TyX K H v t) (k : PySem.W.kitOne K t (.type "tuple") = some false) : PrV K H v false
  | tup {a : Addr} {xs : List V} {b : Bool} (h : H a = some (.tup xs)) (e : b = decide (V.int (xs.length : Int) = V.int 2)) : PrV K H (.ref a) b
def spIsPr (K : PySem.W.Frag) : Sp := fun vs H Q _ => ∃ v b, vs = [v] ∧ PrV K H v b ∧ Q (.bl b) H
abbrev sIsPr : Stmt := top 11
def spIsCl (K : PySem.W.Frag) : Sp := fun vs H Q _ => ∃ v b, vs = [v] ∧ ClV K H v b ∧ ∀ H', Same H H' → Q (.bl b) H'
theorem big_eq : big = 10 ^ 60 := by unfold big; rfl
theorem isI_small {n : Nat} (h : n ≤ 1000) : isI (.int (n : Int)) = true := by
  show (decide (-big < (n : Int)) && decide ((n : Int) < big)) = true
  have e : big = 10 ^ 60 := big_eq
  rw [decide_eq_true (show -big < (n : Int) by omega), decide_eq_true (show (n : Int) < big by omega)]
  rfl
theorem Tu.same {H H' : Hp} {v : V} (d : Da H v) (t : Tu H v) (s : Same H H') : Tu H' v := by
  intro a xs e h
  subst e
  cases d with
  | lst q => rw [s _ _ q] at h; cases h
  | dK q => rw [s _ _ q] at h; cases h
  | tup q =>
    rw [s _ _ q] at h
    injection h with h
    injection h with h
    subst h
    obtain ⟨l, r⟩ := t a _ rfl q
    exact ⟨l, fun x hx => ⟨(r x hx).1.same s, (r x hx).2⟩⟩
theorem onTup_same {H H' : Hp} {v : V} {p : List V → Bool} (d : Da H v) (s : Same H H') : onTup H' p v = onTup H p v := by
  cases d with
  | non => rfl
  | bl b => rfl
  | int i => rfl
  | str x => rfl
  | lst q => simp only [onTup, q, s _ _ q]
  | tup q => simp only [onTup, q, s _ _ q]
  | dK q => simp only [onTup, q, s _ _ q]
structure T9 (K : PySem.W.Frag) (mg : Str → Option Value) (fI fW fN : Addr) : Prop extends T3 K mg fI fW fN
section
variable {P : Program} {w : World} {K : PySem.W.Frag} {mg : Str → Option Value} {base : Heap} {fI fW fN fA : Addr} {fdI fdW fdN fdA : FuncData}
theorem scIsPr : FnScope ["value"] ["value"] (defScope sIsPr) := ⟨rfl, rfl, rfl, by decide +kernel, rfl, by decide +kernel, by decide +kernel⟩
theorem ok_isPr {f : Addr} {fd : FuncData} (F : Fun K "is_pair" "is_pair" sIsPr f fd) (T : T3 K mg fI fW fN) : FnOk P w K mg base CX0 1 f fd ["value"] (spIsPr K) := by
  refine F.ok scIsPr (fun vs H Q E h => ?_) (fun cdv A outer s H vs Q E hr h => ?_)
  · obtain ⟨v, b, rfl, _⟩ := h
    rfl
  · obtain ⟨v, b, rfl, c, k⟩ := h
    refine ⟨_, pss_one (ps_ret (pe_and (pe_callB call_isi (by rfl) T.isi (by decide +kernel) (pa_cons (pv 0) (pa_cons (pe_bltn (v := .ty "tuple") (by rfl) T.tup (by decide +kernel) rfl) pa_nil)))
      (pe_one (pe_cmpR op_eq (pe_callB call_len_seq (by rfl) T.len PySem.boot_len (pa_cons (pv 0) pa_nil)) pe_int (nomark _))))), ?_⟩
    cases c with
    | @other _ t h kt => exact ⟨_, rfl, _, _, t, _, false, rfl, .ty _, h, kt, false, rfl, iteF k⟩
    | @tup a xs _ h e =>
      subst e
      exact ⟨_, rfl, _, _, _, _, true, rfl, .ty _, .base (.tup h), kit_ty (by decide +kernel), true, rfl, iteT ⟨_, rfl, a, xs, rfl, .inr (SqT.of h), rfl, k⟩⟩
theorem scIsCl : FnScope ["value"] ["value"] (defScope sIsCl) := ⟨rfl, rfl, rfl, by decide +kernel, rfl, by decide +kernel, by decide +kernel⟩
theorem ok_isCl {f fP : Addr} {fd fdP : FuncData} (F : Fun K "is_clause" "is_clause" sIsCl f fd) (T : T3 K mg fI fW fN)
    (eP : Gl K mg "is_pair" fP) (GP : FnOk P w K mg base CX0 1 fP fdP ["value"] (spIsPr K)) (bP : Binds K fdP ["value"] [])
    (GW : FnOk P w K mg base CX0 2 fW fdW ["value"] spIsWid) (bW : Binds K fdW ["value"] [])
    (GN : FnOk P w K mg base CX0 1 fN fdN ["value"] spIsNam) (bN : Binds K fdN ["value"] [])
    (eA : Gl K mg "are_names" fA) (GA : FnOk P w K mg base CX0 2 fA fdA ["value"] spAreNam) (bA : Binds K fdA ["value"] []) :
    FnOk P w K mg base CX0 3 f fd ["value"] (spIsCl K) := by
  refine F.ok scIsCl (fun vs H Q E h => ?_) (fun cdv A outer s H vs Q E hr h => ?_)
  · obtain ⟨v, b, rfl, _⟩ := h
    rfl
  · obtain ⟨v, b, rfl, c, k⟩ := h
    have hr1 : Room 1 _ := hr.mono (by decide)
    refine ⟨_, pss_one (ps_ret (pe_and (pe_call GP hr1 (by rfl) eP.g eP.k bP .nil pass0 (pa_cons (pv 0) pa_nil))
        (pe_and (pe_call GN hr1 (by rfl) T.gN T.kN bN .nil pass0 (pa_cons (pe_ix ix_tup (pv 0) pe_int (fun _ _ => rfl)) pa_nil))
        (pe_and (pe_call GA hr (by rfl) eA.g eA.k bA .nil pass0 (pa_cons (pe_ix ix_tup (pv 0) pe_int (fun _ _ => rfl)) pa_nil))
          (pe_one (pe_call GW hr (by rfl) T.gW T.kW bW .nil pass0 (pa_cons (pe_callB call_len_seq (by rfl) T.len PySem.boot_len (pa_cons (pe_ix ix_tup (pv 0) pe_int (fun _ _ => rfl)) pa_nil)) pa_nil))))))), ?_⟩
    cases c with
    | @other _ t h kt =>
      exact ⟨_, rfl, _, _, rfl, .other h kt, false, rfl, iteF (k H Same.rfl')⟩
    | @size a xs h n =>
      have z : ¬ V.int (xs.length : Int) = V.int 2 := fun q => by
        injection q with q
        omega
      exact ⟨_, rfl, _, false, rfl, .tup h (decide_eq_false z).symm, false, rfl, iteF (k H Same.rfl')⟩
    | @pair a x y h dx sx dy ty =>
      refine ⟨_, rfl, _, true, rfl, .tup h rfl, true, rfl, iteT ?_⟩
      refine ⟨_, rfl, a, _, _, x, rfl, rfl, SqT.of h, rfl, x, rfl, dx, sx, fun H1 s1 => ⟨_, rfl, if_both (fun c1 => ?_) (fun c1 => ?_)⟩⟩
      · have c1' : nameV x = true := c1
        have h1 := s1 _ _ h
        refine ⟨_, rfl, a, _, _, y, rfl, rfl, SqT.of h1, rfl, y, rfl, dy.same s1, ty.same dy s1, fun H2 s2 => ⟨_, rfl, if_both (fun c2 => ?_) (fun c2 => ?_)⟩⟩
        · rw [onTup_same dy s1] at c2
          have h2 := s2 _ _ h1
          have it : isTupV H y = true := by
            cases q : isTupV H y with
            | true => rfl
            | false =>
              have z : onTup H (fun ys => ys.all nameV) y = true := c2
              rw [onTup_no q] at z
              cases z
          obtain ⟨b, ys, rfl, hb⟩ := isTup_at it
          have hb2 := s2 _ _ (s1 _ _ hb)
          refine ⟨_, rfl, a, _, _, _, rfl, rfl, SqT.of h2, rfl, b, ys, rfl, .inr (SqT.of hb2), _, rfl, .int _, ?_⟩
          have k2 := k H2 (K0.Same.tr s1 s2)
          have c2' : onTup H (fun ys => ys.all nameV) (.ref b) = true := c2
          have e3 : onTup H (fun ys => widB ys.length) (.ref b) = isW (.int (ys.length : Int)) := by
            obtain ⟨l, _⟩ := ty b ys rfl hb
            have e4 : isI (.int (ys.length : Int)) = true := isI_small l
            show (match H b with | some (.tup xs) => widB xs.length | _ => false) = (isI (.int (ys.length : Int)) && (decide (1 ≤ (ys.length : Int)) && decide ((ys.length : Int) ≤ 8)))
            rw [hb, e4, Bool.true_and]
            show (decide (1 ≤ ys.length) && decide (ys.length ≤ 8)) = _
            congr 1 <;> exact decide_eq_decide.mpr (by omega)
          rw [c1', c2', e3, Bool.true_and, Bool.true_and] at k2
          generalize isW (.int (ys.length : Int)) = B at k2 ⊢
          exact k2
        · rw [onTup_same dy s1] at c2
          have k2 := k H2 (K0.Same.tr s1 s2)
          have c2' : onTup H (fun ys => ys.all nameV) y = false := c2
          rw [c1', c2'] at k2
          exact k2
      · have c1' : nameV x = false := c1
        have k2 := k H1 s1
        rw [c1'] at k2
        exact k2
end
end K0

/-! ## Q10 -/
set_option maxRecDepth 100000
set_option maxHeartbeats 2000000
namespace K0
open PySem L2 NS
/-! ### _columns_of -/
/-- any walk, with any step -/
theorem walk_it {J : It} {n : Nat} {G : Hp → Prop} {Y : Nat → Hp → V → Hp → Prop} (w : Walk J n G Y) {B : V → Hp → (Hp → Prop) → Prop} {H0 : Hp} {Qd : Hp → Prop} (Pv : Nat → Hp → Prop) (h0 : Pv 0 H0) (hG : ∀ i H, i ≤ n → Pv i H → G H)
    (hs : ∀ i x H H', i < n → Pv i H → Y i H x H' → B x H' (Pv (i + 1))) (hd : ∀ H, Pv n H → Qd H) :
    ∃ W : Nat → Nat → Hp → Prop, (∃ m, W 0 m H0) ∧ ∀ i m H, W i m H → (J.stop i H ∧ Qd H) ∨ (J.go i H ∧ ∃ Nx : Hp → Prop, (∀ H', Nx H' → ∃ m', m' < m ∧ W (i + 1) m' H') ∧ ∀ x H', J.yld i H x H' → B x H' Nx) := by
  refine ⟨fun i m H => m = n - i ∧ i ≤ n ∧ Pv i H, ⟨n, by simp, Nat.zero_le _, h0⟩, ?_⟩
  rintro i m H ⟨rfl, hi, p⟩
  have q := hG i H hi p
  by_cases hlt : i < n
  · exact .inr ⟨w.goes i H hlt q, Pv (i + 1), fun H' p' => ⟨n - (i + 1), by omega, rfl, hlt, p'⟩, fun x H' y => hs i x H H' hlt p (w.yields i H x H' hlt q y)⟩
  · have e : i = n := by omega
    subst e
    exact .inl ⟨w.stops H q, hd H p⟩
abbrev sColsOf : Stmt := top 22
def spColsOf (K : PySem.W.Frag) : Sp := fun vs H Q _ => ∃ (a : Addr) (ts : List Addr) (cs : List CL), vs = [.ref a] ∧ SqT K H a (ts.map V.ref) ∧ Cls H ts cs ∧ (colsIn cs).length < 64 ∧ ts.length ≤ 1000 ∧ ∀ ns t H', IsCols (colsIn cs) ns → Same H H' → H t = none → H' t = some (.tup (ns.map V.str)) → Q (.ref t) H'
section
variable {P : Program} {w : World} {K : PySem.W.Frag} {mg : Str → Option Value} {base : Heap}
abbrev nColsOf : List Str := ["clauses", "_", "columns", "column"]
theorem scColsOf : FnScope nColsOf ["clauses"] (defScope sColsOf) := ⟨rfl, rfl, rfl, by decide +kernel, rfl, by decide +kernel, by decide +kernel⟩
theorem ok_colsOf {f : Addr} {fd : FuncData} (F : Fun K "_columns_of" "_columns_of" sColsOf f fd) (T : TQ K mg) : FnOk P w K mg base CX0 1 f fd ["clauses"] (spColsOf K) := by
  refine F.ok scColsOf (fun vs H Q E h => ?_) (fun cdv A outer s H vs Q E hr h => ?_)
  · obtain ⟨a, ts, cs, rfl, _⟩ := h
    rfl
  · obtain ⟨a, ts, cs, rfl, ha, hc, few, many, k⟩ := h
    refine ⟨_, pss_one (ps_ret (pe_callTy (T := "tuple") call_tuple_of (by rfl) T.tup (by decide +kernel) (pa_cons (pe_callB (cr_sortTx rfl) (by rfl) T.srt (by decide +kernel) (pa_cons (pe_callTy (cr_setTx rfl) (by rfl) T.set (by decide +kernel) (pa_cons
      (pe_lc2 (own := [("_", 1), ("columns", 2), ("column", 3)]) (vs1 := [3]) (wi1 := iTup K (tVar 2)) (g := gTup K 2 (gCons (gName 1) (gCons (gName 2) gNil))) (tt := tYes) (g1 := gName 3) (tt1 := tYes) (te := tVar 3) rfl scColsOf.nd (pi_tup (pv 0))
        (blkOk_by (N := nColsOf) (sc := defScope sColsOf) (by decide +kernel)) (by decide)
        (fun _ _ _ _ _ => pg_tup rfl (pgs_cons (pg_name (i := 1) scColsOf.nd rfl (Or.inl rfl)) (pgs_cons (pg_name (i := 2) scColsOf.nd rfl (Or.inl rfl)) pgs_nil))) (fun _ _ _ _ _ => pts_nil)
        (fun _ _ _ _ _ => pi_tup (pv 2)) (fun _ _ _ _ _ => pg_name (i := 3) scColsOf.nd rfl (Or.inl rfl)) (fun _ _ _ _ _ => pts_nil) (fun _ _ _ _ _ => pv 3)) pa_nil)) pa_nil)) pa_nil))), ?_⟩
    refine ⟨_, rfl, a, rfl, ⟨_, ha⟩, fun D hD => walk_it walk_tup (fun i H' => Same H H' ∧ H' D = some (.lst ((colsIn (cs.take i)).map V.str))) ⟨K0.Same.new _ hD, upd_same⟩ (fun i H' _ s => seqT s.1 ha) ?_ ?_⟩
    · rintro i x H1' H1 hi ⟨s1, e1⟩ ⟨rfl, hx⟩
      rw [List.getElem?_map] at hx
      obtain ⟨t, ht, rfl⟩ := Option.map_eq_some_iff.mp hx
      obtain ⟨hti, et⟩ := List.getElem?_eq_some_iff.mp ht
      obtain ⟨c, hci, hA⟩ := hc.at_ i hti
      rw [et] at hA
      obtain ⟨t2, g1, g2⟩ := hA
      have le := colsIn_le cs (i + 1)
      rw [colsIn_take _ _ _ hci, List.length_append] at le
      refine ⟨t, _, rfl, SqT.of (s1 _ _ g1), rfl, _, _, rfl, _, _, rfl, rfl, rfl, ?_⟩
      dsimp only [tYes]
      rw [if_pos rfl]
      refine ⟨_, rfl, t2, rfl, ⟨_, SqT.of (s1 _ _ g2)⟩, walk_it walk_tup (fun j H' => Same H H' ∧ H' D = some (.lst ((colsIn (cs.take i) ++ c.2.take j).map V.str))) ⟨s1, by rw [List.take_zero, List.append_nil]; exact e1⟩ (fun j H' _ s => SqT.of (s.1 _ _ g2)) ?_ ?_⟩
      · rintro j y H2' H2 hj ⟨s2, e2⟩ ⟨rfl, hy⟩
        rw [List.getElem?_map] at hy
        obtain ⟨z, hz, rfl⟩ := Option.map_eq_some_iff.mp hy
        have zl := (List.getElem?_eq_some_iff.mp hz).1
        refine ⟨rfl, ?_⟩
        rw [if_pos rfl]
        refine ⟨_, rfl, _, e2, by rw [List.length_map, List.length_append, List.length_take, sizeLine_eq]; omega, fun b o e => ?_, ?_⟩
        · rw [upd_ne (ne_of_none e hD)]
          exact s2 _ _ e
        · rw [upd_same, List.take_add_one, hz, ← List.append_assoc, List.map_append (l₁ := colsIn (cs.take i) ++ c.2.take j)]
          rfl
      · rintro H2 ⟨s2, e2⟩
        rw [List.length_map, List.take_length] at e2
        exact ⟨s2, by rw [colsIn_take _ _ _ hci]; exact e2⟩
    · rintro H1 ⟨s1, e1⟩
      rw [List.length_map, hc.len, List.take_length] at e1
      refine ⟨D, _, rfl, .inr (SqL.of e1), by omega, fun p n hn hp => ⟨p, _, n, rfl, upd_same, by omega, fun ns m g1 g2 g3 g4 hm => ?_⟩⟩
      have sp := K0.Same.new (SetTO w p (fun j => decide (j ∈ colsIn cs)) n) hp
      have sm := K0.Same.new (.lst (ns.map V.str)) hm
      refine ⟨m, _, rfl, .inl ⟨SqL.of upd_same, fun t ht => ?_⟩⟩
      have st := K0.Same.new (.tup (ns.map V.str)) ht
      have s2 := K0.Same.tr s1 (K0.Same.tr sp sm)
      exact k ns t _ ⟨g1, g2, fun j => by rw [g3, decide_eq_true_eq]⟩ (K0.Same.tr s2 st) (none_back s2 ht) upd_same
end
end K0

/-! ## P1 -/
set_option maxRecDepth 100000
set_option maxHeartbeats 2000000
/-! ### special methods of a class of the text: ==, !=, in, len, str; keys compared -/
namespace K0
open PySem PySem.Spec PyProof.Rows L2
section
variable {X : Cx}
/-- k < l of keys -/
def rLtN (K : PySem.W.Frag) : R2 := fun x y H Q => ∃ kx ky, NS.Kv K H x kx ∧ NS.Kv K H y ky ∧ NS.okK kx ky = true ∧ kx.depth ≤ 8 ∧ Q (.bl (NS.ltK kx ky)) H
theorem op_ltN (hu : X.A.units + 64 < cLine) : OpR X (compareOp .Lt) (rLtN X.K) := by
  intro pins s σ H x y v u Q I rx ry h
  obtain ⟨kx, ky, hx, hy, ok, hd, q⟩ := h
  exact NS.rich kx ky X.A s v u ok (NS.pure_of I _ _ _ hx rx) (NS.pure_of I _ _ _ hy ry) (by omega) X.prog X.w X.xe _ ⟨.bl _, H, I, rfl, q⟩
end
/-! ### the type of a value, for comparisons -/
section
variable {X : Cx} {pins : List (Addr × Obj)} {σ : L2.St} {H : Hp} {s : Shared} {M : Model}
inductive TyS (K : PySem.W.Frag) (H : Hp) : V → Value → Prop
  | non : TyS K H .non (.type "NoneType")
  | str (z : Str) : TyS K H (.str z) (.type "str")
  | tup {a : Addr} {xs : List V} (h : SqT K H a xs) : TyS K H (.ref a) (.type "tuple")
  | ins {a C dx : Addr} {fs : List (Str × V)} (h : H a = some (.ins C dx fs)) : TyS K H (.ref a) (.ref C)
theorem tyS_looks {y : V} {u t : Value} (I : Inv X pins σ H s) (ry : RelV y u) (h : TyS X.K H y t) : PySem.W.Looks M s.heap (typeOf u) t := by
  cases h with
  | non => cases ry; exact PySem.W.Looks.now
  | str z => obtain ⟨k, rfl⟩ := ry; exact PySem.W.Looks.now
  | tup h =>
    cases ry
    obtain ⟨its, r, ⟨o, ho, hc, n, hd⟩, hz⟩ := I.tuple h
    rw [← hc]
    exact (PySem.W.Looks.ld (part := none) ho).andThen .now
  | ins h =>
    cases ry
    obtain ⟨mA, J, _⟩ := ins_get I.hok h
    obtain ⟨od, J, _⟩ := J.look
    exact J.type
end
/-- x == y, x of the class at C whose == is the def at g -/
def rEqOwn (K : PySem.W.Frag) (C : Addr) (sp : Sp) (E : XK) : R2 := fun x y H Q => ∃ a dx fs t, x = .ref a ∧ H a = some (.ins C dx fs) ∧ TyS K H y t ∧ PySem.W.notFirst K C t = true ∧ sp [x, y] H Q E
section
variable {X : Cx} {CX : CXT} {n : Nat} {C g : Addr} {sp : Sp} {E : XK}
theorem op_eqOwn (hs : PySem.W.findIn X.K (.ref C) "__eq__" = some (some (.ref g))) (hf : PySem.W.isFn X.K (.ref g) = true) (F : FnR X.prog X.w X.K X.mg X.base CX n g sp)
    (hr : Room n X.A) (hx : Passes CX X E) : OpR X (compareOp .Eq) (rEqOwn X.K C sp E) := by
  intro pins s σ H x y v u Q I rx ry h
  obtain ⟨a, dx, fs, t, rfl, ha, ty, hn, q⟩ := h
  cases (show v = Value.ref a from rx)
  obtain ⟨mA, J, _⟩ := ins_get I.hok ha
  obtain ⟨od, J, _⟩ := J.look
  obtain ⟨m, hF⟩ := I.fr
  show wpAny _ _ (richCompare .Eq (.ref a) u) _ _ _
  refine PySem.W.cmp_K (op := .Eq) (tb := t) hr.units0 hF I.ok.mod.kin J (tyS_looks I ry ty) hn hs hf ?_
  refine wpAny_mono (wpAny_call (run_fnR (us := [.ref a, u]) (vs := [.ref a, y]) F hr hx I (.cons rfl (.cons ry .nil)) q)) (fun w s' z => ?_) fun _ _ x => x
  obtain ⟨z', H', I', rz, qz⟩ := z
  exact SlX.cmpback rz ⟨z', H', I', rz, qz⟩
end
end K0

/-! ## P2 -/
set_option maxRecDepth 100000
set_option maxHeartbeats 2000000
namespace K0
open PySem PySem.Spec PyProof.Rows L2
/-! ### x != y by object.__ne__ over the text's own == -/
section
variable {prog : Program} {w : World} {A : Around} {E : Value → Shared → Prop} {s : Shared} {K : PySem.W.Frag} {x C f : Addr} {ox : Obj} {od : Option Obj} {b : Value}
theorem ne_entry {P : PySem.Fin → Shared → Prop} (hu : A.units < cLine) (X : K.In s.heap) (I : PySem.W.InstAt s.heap x ox C od) (hs : PySem.W.findIn K (.ref C) "__eq__" = some (some (.ref f))) (hf : PySem.W.isFn K (.ref f) = true)
    (h : wpAny (model prog w) A (call (.ref f) [.ref x, b]) (fun v s' => ∃ c, v = .bool c ∧ P (.done (.ret (.bool (!c)))) s') E s) : wpAny (model prog w) A (Builtin.«object.__ne__» ⟨[.ref x, b], []⟩) P E s := by
  unfold Builtin.«object.__ne__»
  refine wpAny_bind (m := slotArgs "__ne__" 1 _) (wpAny_pure ?_)
  refine wpAny_bind (wpAny_cRoomFor hu ?_)
  refine wpAny_bind (PySem.W.ifBound_K X I hs hf (wpAny_mono h (fun v s' hv => ?_) fun _ _ e => e))
  obtain ⟨c, rfl, hq⟩ := hv
  refine wpAny_bind (wpAny_truthy_bool ?_)
  exact wpAny_pure hq
theorem ifBound_ne {args : List Value} {Q : Option Value → Shared → Prop} (X : K.In s.heap) (I : PySem.W.InstAt s.heap x ox C od) (hs : PySem.W.findIn K (.ref C) "__ne__" = some (some (.builtin "object.__ne__")))
    (h : wpAny (model prog w) A (call (.builtin "object.__ne__") (.ref x :: args)) (fun v => Q (some v)) E s) : wpAny (model prog w) A (callSpecialIfBound? (.ref x) "__ne__" args) Q E s := by
  simp only [callSpecialIfBound?, bindSpecialIfBound?]
  refine wpAny_holding (wpAny_bind (wpAny_bind (wpAny_bind (I.type.here ((PySem.W.looks_findIn X hs).here ?_)))))
  refine wpAny_bind (wpAny_askSetting (wpAny_ite ?_))
  have fin : wpAny (model prog w) A (call (.builtin "object.__ne__") ([.ref x] ++ args) >>= fun v => pure (some v)) Q E s := wpAny_bind (wpAny_mono h (fun v s' h' => wpAny_pure h') fun _ _ h' => h')
  split
  · exact wpAny_bind (wpAny_of_eq (F.cmp_object.ne.bind _) (wpAny_pure (by exact fin)))
  · exact wpAny_tryCatch (wpAny_bind (wpAny_of_eq (F.cmp_object.ne.bind _) (wpAny_pure (by exact fin))))
theorem ne_K {tb : Value} {Q : Value → Shared → Prop} (hu : A.units + 1 < cLine) (X : K.In s.heap) (I : PySem.W.InstAt s.heap x ox C od) (hb : PySem.W.Looks (model prog w) s.heap (typeOf b) tb) (hn : PySem.W.notFirst K C tb = true) (hm : PySem.W.mroIn K C (.type "object") = some true)
    (hne : PySem.W.findIn K (.ref C) "__ne__" = some (some (.builtin "object.__ne__"))) (hs : PySem.W.findIn K (.ref C) "__eq__" = some (some (.ref f))) (hf : PySem.W.isFn K (.ref f) = true)
    (h : wpAny (model prog w) A.in1 (call (.ref f) [.ref x, b]) (fun v s' => ∃ c, v = .bool c ∧ Q (.bool (!c)) s') E s) : wpAny (model prog w) A (richCompare .NotEq (.ref x) b) Q E s := by
  have one : wpAny (model prog w) A (tryCompare (.ref x) "__ne__" b) (fun r s' => ∃ v, r = some v ∧ Q v s') E s := by
    unfold tryCompare
    refine wpAny_bind (ifBound_ne X I hne ?_)
    refine wpAny_call (codeAny_call_builtin F.cmp_object.ne.plain F.cmpEntry_ne (PySem.W.check_slot F.cmpKind_ne F.cmpSplit_ne (I.type.andThen (PySem.W.looks_mroIn X hm)) (F.cmpArgs_ne _ _) ?_))
    refine ne_entry (by rw [Around.in1_units]; omega) X I hs hf (wpAny_mono h (fun v s' hv => ?_) fun _ _ e => e)
    obtain ⟨c, rfl, hq⟩ := hv
    exact ⟨c, rfl, wpAny_pure ⟨_, rfl, hq⟩⟩
  unfold richCompare
  simp only [oneThing_ref]
  refine wpAny_holding (wpAny_bind (wpAny_cRoomFor (by omega) ?_))
  refine wpAny_bind (I.type.here (wpAny_bind (hb.here ?_)))
  split
  · rename_i q
    have e : PySem.W.subIn K tb (.ref C) = some false := by
      rcases Bool.or_eq_true_iff.mp hn with e | e
      · rw [beq_iff_eq.mp e] at q; simp at q
      · exact beq_iff_eq.mp e
    refine wpAny_bind ((PySem.W.looks_subIn X e).here ?_)
    simp only [Bool.false_eq_true, if_false]
    refine wpAny_bind (wpAny_mono one (fun r s' z => ?_) fun _ _ e => e)
    obtain ⟨v, rfl, hq⟩ := z
    exact wpAny_pure hq
  · refine wpAny_bind (wpAny_pure ?_)
    simp only [Bool.false_eq_true, if_false]
    refine wpAny_bind (wpAny_mono one (fun r s' z => ?_) fun _ _ e => e)
    obtain ⟨v, rfl, hq⟩ := z
    exact wpAny_pure hq
/-! ### x in o by the text's own __contains__ -/
theorem in_K {Q : Bool → Shared → Prop} (X : K.In s.heap) (I : PySem.W.InstAt s.heap x ox C od) (hs : PySem.W.findIn K (.ref C) "__contains__" = some (some (.ref f))) (hf : PySem.W.isFn K (.ref f) = true)
    (h : wpAny (model prog w) A (call (.ref f) [.ref x, b]) (fun v s' => ∃ c, v = .bool c ∧ Q c s') E s) : wpAny (model prog w) A (contains (.ref x) b) Q E s := by
  unfold contains
  refine wpAny_holding ?_
  have e0 : stdlibNamesSay? (.ref x) b = none := by
    unfold stdlibNamesSay?
    rfl
  rw [e0]
  refine wpAny_bind (wpAny_bind (I.type.here ((PySem.W.looks_findIn X hs).here ?_)))
  refine wpAny_ite_split (fun hab => absurd hab (show ¬ ((some (Value.ref f) == some Value.none) = true) from Bool.false_ne_true)) (fun _ => ?_)
  unfold callSpecialUnlessNone?
  refine wpAny_bind (wpAny_bind (wpAny_bind (I.type.here ((PySem.W.looks_findIn X hs).here ?_))))
  refine wpAny_holding (wpAny_bind ((PySem.W.bind_fn X _ (beq_iff_eq.mp hf)).here ?_))
  refine wpAny_ite_split (fun hab => absurd hab (show ¬ ((Value.ref f == Value.none) = true) from Bool.false_ne_true)) (fun _ => ?_)
  refine wpAny_bind (wpAny_mono h (fun v s' hv => ?_) fun _ _ e => e)
  obtain ⟨c, rfl, hq⟩ := hv
  exact wpAny_pure (wpAny_truthy_bool hq)
end
/-- x != y, by the own == -/
def rNeOwn (K : PySem.W.Frag) (C : Addr) (sp : Sp) (E : XK) : R2 := fun x y H Q => ∃ a dx fs t, x = .ref a ∧ H a = some (.ins C dx fs) ∧ TyS K H y t ∧ PySem.W.notFirst K C t = true ∧ sp [x, y] H (fun v H' => ∃ c, v = .bl c ∧ Q (.bl (!c)) H') E
/-- y in o -/
def rInOwn (C : Addr) (sp : Sp) (E : XK) : R2 := fun x y H Q => ∃ a dx fs, y = .ref a ∧ H a = some (.ins C dx fs) ∧ sp [y, x] H (fun v H' => ∃ c, v = .bl c ∧ Q (.bl c) H') E
def rLenOwn (C : Addr) (sp : Sp) (E : XK) : List V → Hp → VK → Prop := fun xs H Q => ∃ a dx fs, xs = [.ref a] ∧ H a = some (.ins C dx fs) ∧ sp xs H (fun v H' => ∃ i : Int, v = .int i ∧ 0 ≤ i ∧ i < 2 ^ 63 ∧ Q (.int i) H') E
def rStrOwn (C : Addr) (sp : Sp) (E : XK) : List V → Hp → VK → Prop := fun xs H Q => ∃ a dx fs, xs = [.ref a] ∧ H a = some (.ins C dx fs) ∧ sp xs H (fun v H' => ∃ z, v = .str z ∧ Q (.str z) H') E
section
variable {X : Cx} {CX : CXT} {n : Nat} {C g : Addr} {sp : Sp} {E : XK}
theorem op_neOwn (hm : PySem.W.mroIn X.K C (.type "object") = some true) (hne : PySem.W.findIn X.K (.ref C) "__ne__" = some (some (.builtin "object.__ne__"))) (hs : PySem.W.findIn X.K (.ref C) "__eq__" = some (some (.ref g))) (hf : PySem.W.isFn X.K (.ref g) = true) (F : FnR X.prog X.w X.K X.mg X.base CX n g sp)
    (hr : Room (n + 1) X.A) (hx : Passes CX X E) : OpR X (compareOp .NotEq) (rNeOwn X.K C sp E) := by
  intro pins s σ H x y v u Q I rx ry h
  obtain ⟨a, dx, fs, t, rfl, ha, ty, hn, q⟩ := h
  cases (show v = Value.ref a from rx)
  obtain ⟨mA, J, _⟩ := ins_get I.hok ha
  obtain ⟨od, J, _⟩ := J.look
  show wpAny _ _ (richCompare .NotEq (.ref a) u) _ _ _
  refine ne_K (by have := hr.units; omega) I.kIn J (tyS_looks I ry ty) hn hm hne hs hf ?_
  refine wpAny_mono (wpAny_call (SlX.run_at (us := [.ref a, u]) (ws := [.ref a, y]) F hr.in1 I.env0.in1 hx I (.cons rfl (.cons ry .nil)) q)) (fun w s' z => ?_) fun _ _ x => x
  obtain ⟨z', H', I', rz, c, rfl, qz⟩ := z
  cases (show w = Value.bool c from rz)
  exact ⟨c, rfl, .bl _, H', I', rfl, qz⟩
theorem op_inOwn (hs : PySem.W.findIn X.K (.ref C) "__contains__" = some (some (.ref g))) (hf : PySem.W.isFn X.K (.ref g) = true) (F : FnR X.prog X.w X.K X.mg X.base CX n g sp)
    (hr : Room n X.A) (hx : Passes CX X E) : OpR X (compareOp .In) (rInOwn C sp E) := by
  intro pins s σ H x y v u Q I rx ry h
  obtain ⟨a, dx, fs, rfl, ha, q⟩ := h
  cases (show u = Value.ref a from ry)
  obtain ⟨mA, J, _⟩ := ins_get I.hok ha
  obtain ⟨od, J, _⟩ := J.look
  show wpAny _ _ (contains (.ref a) v >>= fun r => pure (Value.bool r)) _ _ _
  refine wpAny_bind (in_K I.kIn J hs hf ?_)
  refine wpAny_mono (wpAny_call (run_fnR (us := [.ref a, v]) (vs := [.ref a, x]) F hr hx I (.cons rfl (.cons rx .nil)) q)) (fun w s' z => ?_) fun _ _ x => x
  obtain ⟨z', H', I', rz, c, rfl, qz⟩ := z
  cases (show w = Value.bool c from rz)
  exact ⟨c, rfl, wpAny_pure ⟨.bl _, H', I', rfl, qz⟩⟩
theorem op_notInOwn (hs : PySem.W.findIn X.K (.ref C) "__contains__" = some (some (.ref g))) (hf : PySem.W.isFn X.K (.ref g) = true) (F : FnR X.prog X.w X.K X.mg X.base CX n g sp)
    (hr : Room n X.A) (hx : Passes CX X E) : OpR X (compareOp .NotIn) (fun x y H Q => rInOwn C sp E x y H fun v H' => ∃ c, v = .bl c ∧ Q (.bl (!c)) H') := by
  intro pins s σ H x y v u Q I rx ry h
  obtain ⟨a, dx, fs, rfl, ha, q⟩ := h
  cases (show u = Value.ref a from ry)
  obtain ⟨mA, J, _⟩ := ins_get I.hok ha
  obtain ⟨od, J, _⟩ := J.look
  show wpAny _ _ (contains (.ref a) v >>= fun r => pure (Value.bool (!r))) _ _ _
  refine wpAny_bind (in_K I.kIn J hs hf ?_)
  refine wpAny_mono (wpAny_call (run_fnR (us := [.ref a, v]) (vs := [.ref a, x]) F hr hx I (.cons rfl (.cons rx .nil)) q)) (fun w s' z => ?_) fun _ _ x => x
  obtain ⟨z', H', I', rz, c, rfl, c', e, qz⟩ := z
  cases (show w = Value.bool c from rz)
  cases e
  exact ⟨c, rfl, wpAny_pure ⟨.bl _, H', I', rfl, qz⟩⟩
theorem call_lenOwn (hs : PySem.W.findIn X.K (.ref C) "__len__" = some (some (.ref g))) (hf : PySem.W.isFn X.K (.ref g) = true) (F : FnR X.prog X.w X.K X.mg X.base CX n g sp)
    (hr : Room (n + 1) X.A) (hx : Passes CX X E) : CallR X (.builtin "len") (rLenOwn C sp E) := by
  intro pins s σ H xs us Q I r h
  obtain ⟨a, dx, fs, rfl, ha, q⟩ := h
  obtain ⟨u, rfl, ru⟩ := r.one
  cases (show u = Value.ref a from ru)
  obtain ⟨mA, J, _⟩ := ins_get I.hok ha
  obtain ⟨od, J, _⟩ := J.look
  obtain ⟨m, hF⟩ := I.fr
  refine PySem.W.len_K hF I.ok.mod.kin J hs hf ?_
  refine wpAny_mono (wpAny_call (SlX.run_at (us := [.ref a]) (ws := [.ref a]) F hr.in1 I.env0.in1 hx I (.cons rfl .nil) q)) (fun w s' z => ?_) fun _ _ x => x
  obtain ⟨z', H', I', rz, i, rfl, h0, h1, qz⟩ := z
  obtain ⟨t, e⟩ := (show ∃ t, w = Value.int i t from rz)
  cases e
  exact ⟨⟨h0, h1⟩, .int i, H', I'.tok (s'.toks + 1), ⟨_, rfl⟩, qz⟩
theorem call_strOwn (hs : PySem.W.findIn X.K (.ref C) "__str__" = some (some (.ref g))) (hf : PySem.W.isFn X.K (.ref g) = true) (F : FnR X.prog X.w X.K X.mg X.base CX n g sp)
    (hr : Room (n + 2) X.A) (hx : Passes CX X E) : CallR X (.type "str") (rStrOwn C sp E) := by
  intro pins s σ H xs us Q I r h
  obtain ⟨a, dx, fs, rfl, ha, q⟩ := h
  obtain ⟨u, rfl, ru⟩ := r.one
  cases (show u = Value.ref a from ru)
  obtain ⟨mA, J, _⟩ := ins_get I.hok ha
  obtain ⟨od, J, _⟩ := J.look
  have hr2 : Room n X.A.in1.in1 := (show Room (n + 1) X.A.in1 from Room.in1 hr).in1
  refine PySem.W.kso_call hr2.units0 I.kIn J hs hf ?_
  refine wpAny_mono (wpAny_call (SlX.run_at (us := [.ref a]) (ws := [.ref a]) F hr2 I.env0.in1.in1 hx I (.cons rfl .nil) q)) (fun w s' z => ?_) fun _ _ x => x
  obtain ⟨z', H', I', rz, i, rfl, qz⟩ := z
  obtain ⟨t, e⟩ := (show ∃ t, w = Value.str i t from rz)
  cases e
  exact ⟨.str i, H', I', ⟨_, rfl⟩, qz⟩
end
end K0

/-! ## P3 -/
set_option maxRecDepth 100000
set_option maxHeartbeats 2000000
namespace K0
open PySem PySem.Spec PyProof.Rows L2 ItX
/-! ### a def whose promise speaks of the heap's size when it is entered -/
def FnS (P : Program) (w : World) (K : PySem.W.Frag) (mg : Str → Option Value) (base : Heap) (CX : CXT) (k : Nat) (f : Addr) (sp : Nat → Sp) : Prop :=
  ∀ (A : Around) (outer : List Env) (s : Shared) (H : Hp) (us : List Value) (vs : List V) (Q : VK) (E : XK), Room k A → Env0 P w K mg base A outer s H → Vals vs us → sp s.heap.objs.size vs H Q E →
    codeAny (model P w) A (.call (.ref f) ⟨us, []⟩) (CR CX outer P w H s Q E) s
section
variable {P : Program} {w : World} {K : PySem.W.Frag} {mg : Str → Option Value} {base : Heap}
theorem sfn {x qual : Str} {st : Stmt} {f : Addr} {fd : FuncData} {N ps : List Str} {k : Nat} {sp : Nat → Sp} {CX : CXT} (F : Fun K x qual st f fd) (S : FnScope N ps (defScope st)) (b : Binds K fd ps []) (len : ∀ n vs H Q E, sp n vs H Q E → vs.length = ps.length)
    (hbody : ∀ (cdv : Value) (A : Around) (outer : List Env) (s : Shared) (H : Hp) (vs : List V) (Q : VK) (E : XK), Room k (A.deeper (envOfC qual (defScope st) s.heap.objs.size f cdv)) → sp s.heap.objs.size vs H Q E →
      ∃ t, PSs (cxOf CX P w K mg base N qual (defScope st) f cdv A outer s H E) (defBody st) t ∧ t { nx := fun _ H' => Q .non H', rt := Q } (L2.start N vs) H) : FnS P w K mg base CX (k + 1) f sp := by
  intro A outer s H us vs Q E hr e0 r hsp
  have hl := len _ _ _ _ _ hsp
  have KX : K.In s.heap := e0.mod.kin.keeps fun b o e => (e0.bs b o e).1
  have hb : BindsTo s fd ⟨us, []⟩ (ps.zip us) := by
    have z := b s us KX (by rw [List.append_nil, ← r.length]; exact hl)
    simpa using z
  obtain ⟨oc, od, kV, doc, pm, an, cdv, ct, osl, rfl, lk, hcd⟩ := F.ex
  have lim : s.heap.NoLimit := e0.mod.nolimit.keeps fun b o e => (e0.bs b o e).1
  have hkind : ∀ y ∈ ps.zip us, (defScope st).names.lookup y.1 = some .local ∨ ((defScope st).names.lookup y.1 = some .cell ∧ ((cellsFrom (s.heap.objs.size + 1) (defScope st).names []).lookup y.1).isSome = true) := fun ⟨n, v⟩ hy => by
    rcases S.par n (List.of_mem_zip hy).1 with q | q
    · exact .inl q
    · exact .inr ⟨q, PySem.W.cellsFrom_some _ _ _ (.inl q)⟩
  refine codeAny_call_function hr.depth (KX _ _ lk) rfl S.co S.gen rfl (PySem.W.codeRec_of KX hcd) (hb _ _ _ _ ?_)
  refine wpAny_newFunctionEnv_cells S.kind hkind fun env he s1 x => ?_
  subst he
  refine ⟨lim.keeps x.toInCall.keep, codeAny_func ?_⟩
  obtain ⟨t, ht, hq⟩ := hbody cdv A outer s H vs Q E (hr.deeper _) hsp
  have I : Inv (cxOf CX P w K mg base N qual (defScope st) f cdv A outer s H E) [] (L2.start N vs) H s1 := inv_start S hr.hd e0 hl r x
  refine wpAny_mono (ht.run [] s1 (L2.start N vs) H _ I hq) (fun fl s' hs => ?_) fun e s' hs => hs
  have fin : ∀ {σ' : L2.St} {H' : Hp} {v : V} {u : Value}, Inv (cxOf CX P w K mg base N qual (defScope st) f cdv A outer s H E) [] σ' H' s' → RelV v u → Q v H' → CE outer P w H s Q u s' :=
    fun {σ' H' v u} J rv q => ⟨v, H', J.os, J.bare, J.base, J.hok, rv, q⟩
  cases fl with
  | ret u =>
    obtain ⟨v, σ', H', J, rv, q⟩ := hs
    exact fin J rv q
  | next =>
    obtain ⟨σ', H', J, q⟩ := hs
    exact fin (v := V.non) (u := Value.none) J rfl q
  | brk =>
    obtain ⟨_, _, _, q⟩ := hs
    exact False.elim q
  | cont =>
    obtain ⟨_, _, _, q⟩ := hs
    exact False.elim q
end
/-! ### iter(t), t a tuple -/
def TitO (t it : Addr) : HO := .ext fun h => h.IsTupleIter it t 0
theorem titO_ok {P : Program} {w : World} {H : Hp} {h : Heap} {t it : Addr} (e : h.IsTupleIter it t 0) : ObjOk P w H h it (TitO t it) := by
  obtain ⟨o, ho, r⟩ := e
  refine ⟨⟨o, ho, r⟩, ⟨o, ho⟩, fun h1 h2 q k => ?_⟩
  obtain ⟨o1, a1, a2⟩ := q
  exact ⟨o1, k _ a1, a2⟩
theorem call_iter_tup {prog : Program} {w : World} {A : Around} {E : Value → Shared → Prop} {s : Shared} {l : Addr} {items : Array Value} {Q : Value → Shared → Prop} (hl : s.heap.IsTuple l items)
    (h : Q (.ref s.heap.objs.size) { s with heap := s.heap.push { cls := .type "tuple_iterator", data := .fields #[.ref l, .int 0 0] } }) : wpAny (model prog w) A (call (.builtin "iter") [.ref l]) Q E s := by
  refine Calls.call_function_entry (by decide +kernel) (by decide +kernel) PySem.W.kdk_entry_iter (PySem.W.kdk_args_iter _) ?_
  unfold Builtin.«iter»
  refine wpAny_bind (m := someArgs "iter" 1 2 _) (wpAny_of_eq (a := [Value.ref l]) (by first | rfl | kernel_rfl!) ?_)
  show wpAny _ _ (pyIter (.ref l) >>= _) _ _ _
  refine wpAny_bind (wpAny_pyIter_tuple hl ?_)
  exact wpAny_pure ⟨_, rfl, h⟩
def rIterT (K : PySem.W.Frag) (n : Nat) : List V → Hp → VK → Prop := fun xs H Q => ∃ (t : Addr) (zs : List V), xs = [.ref t] ∧ SqT K H t zs ∧ ∀ it, H it = none → n ≤ it → Q (.ref it) (upd H it (TitO t it))
section
variable {X : Cx}
theorem call_iterT : CallR X (.builtin "iter") (rIterT X.K X.s_0.heap.objs.size) := by
  intro pins s σ H xs us Q I r h
  obtain ⟨t, zs, rfl, hq, q⟩ := h
  obtain ⟨u, rfl, ru⟩ := vals1 r
  cases ru
  obtain ⟨its, rv, pl, hz⟩ := I.tuple hq
  refine call_iter_tup pl ?_
  exact ⟨.ref s.heap.objs.size, _, I.laid (t' := s.toks) (fun b u e => Heap.get?_push_of_some _ e) (Nat.le_refl _) (titO_ok ⟨_, Heap.get?_push_size _ rfl, rfl, rfl⟩), rfl, q _ (I.hok.fresh (Nat.le_refl _)) I.sz⟩
end
/-! ### walking an object whose __iter__ gives the iterator of a tuple that it holds -/
/-- what such an __iter__ promises: fld holds the tuple -/
def spIterT (K : PySem.W.Frag) (C : Addr) (fld : Str) : Nat → Sp := fun n vs H Q _ => ∃ a dx fs t zs, vs = [.ref a] ∧ H a = some (.ins C dx fs) ∧ fs.lookup fld = some (.ref t) ∧ SqT K H t zs ∧ ∀ it, H it = none → n ≤ it → Q (.ref it) (upd H it (TitO t it))
structure ItrC (X : Cx) (n : Nat) (C g : Addr) (fld : Str) : Prop where
  at_ : PySem.W.findIn X.K (.ref C) "__iter__" = some (some (.ref g))
  fn : PySem.W.isFn X.K (.ref g) = true
  ok : FnS X.prog X.w X.K X.mg X.base CX0 n g (spIterT X.K C fld)
section
variable {X : Cx} {pins : List (Addr × Obj)} {σ : L2.St} {H : Hp} {s : Shared} {A : Around} {n : Nat} {C g a dx t it : Addr} {fld : Str} {fs : List (Str × V)} {zs : List V}
theorem sub_env (sb : Sub X n A) (I : Inv X pins σ H s) : Env0 X.prog X.w X.K X.mg X.base A X.stack s H := by
  have e := I.env0
  exact ⟨by rw [sb.fr]; exact e.frames, e.mod, e.bs, e.bsz, e.funs, e.frf, e.hok, e.bare⟩
theorem own_iterT0 {E' : Value → Shared → Prop} {Q : Value → Shared → Prop} (sb : Sub X n A) (T : ItrC X n C g fld) (I : Inv X pins σ H s) (ha : H a = some (.ins C dx fs)) (hf : fs.lookup fld = some (.ref t)) (ht : SqT X.K H t zs)
    (h : ∀ it s', Inv X pins σ (upd H it (TitO t it)) s' → H it = none → X.s_0.heap.objs.size ≤ it → Q (.ref it) s') : wpAny (model X.prog X.w) A (pyIter (.ref a)) Q E' s := by
  obtain ⟨mA, J, _⟩ := ins_get I.hok ha
  obtain ⟨od, J, _⟩ := J.look
  obtain ⟨m, hF⟩ := I.fr
  refine PySem.W.owit_iter hF I.ok.mod.kin J T.at_ T.fn ?_
  have hsp : spIterT X.K C fld s.heap.objs.size [.ref a] H (fun v H' => ∃ it, v = .ref it ∧ H' = upd H it (TitO t it) ∧ H it = none ∧ s.heap.objs.size ≤ it) (fun _ _ _ => False) :=
    ⟨a, dx, fs, t, zs, rfl, ha, hf, ht, fun it h1 h2 => ⟨it, rfl, rfl, h1, h2⟩⟩
  refine wpAny_call (codeAny_mono (T.ok A X.stack s H [.ref a] [.ref a] _ _ sb.room (sub_env sb I) (.cons rfl .nil) hsp) fun r s' hq => ?_)
  cases r with
  | error e => exact False.elim hq
  | ok fl =>
    cases fl with
    | next => exact False.elim hq
    | brk => exact False.elim hq
    | cont => exact False.elim hq
    | ret u =>
      obtain ⟨v, H', I', rv, it, ev, eH, hn, hz⟩ := I.after hq
      subst ev
      subst eH
      cases rv
      have st : s'.heap.IsTupleIter it t 0 := (I'.hok it _ upd_same).1
      show wpAny _ _ (specialOf (.ref it) "__next__") _ _ _
      refine wpAny_specialOf (name := Str.ofString "__next__") st.typeIs F.slot_tuple_iterator_next.lookup ?_
      exact h it s' I' hn (Nat.le_trans I.sz hz)
theorem tit_drop (I : Inv X pins σ (upd H it (TitO t it)) s) (hn : H it = none) (hz : X.s_0.heap.objs.size ≤ it) : Inv X pins σ H s ∧ FpOk X pins H it ∧ s.heap.IsTupleIter it t 0 := by
  have hi : upd H it (TitO t it) it = some (TitO t it) := upd_same
  have st : s.heap.IsTupleIter it t 0 := (I.hok it _ hi).1
  have hi' := hi
  unfold TitO at hi'
  have Id := inv_drop I hi'
  have fp := inv_fp I hi' hz
  have eD : dropH (upd H it (TitO t it)) it = H := dropH_upd hn
  rw [eD] at Id fp
  exact ⟨Id, fp, st⟩
theorem own_iterT {E' : Value → Shared → Prop} {Q : Value → Shared → Prop} (sb : Sub X n A) (T : ItrC X n C g fld) (I : Inv X pins σ H s) (ha : H a = some (.ins C dx fs)) (hf : fs.lookup fld = some (.ref t)) (ht : SqT X.K H t zs)
    (h : ∀ it s', Inv X pins σ H s' → FpOk X pins H it → s'.heap.IsTupleIter it t 0 → Q (.ref it) s') : wpAny (model X.prog X.w) A (pyIter (.ref a)) Q E' s :=
  own_iterT0 sb T I ha hf ht fun it s' I' hn hz => by
    obtain ⟨a1, a2, a3⟩ := tit_drop I' hn hz
    exact h it s' a1 a2 a3
end
/-! ### list(o) -/
section
variable {X : Cx} {pins : List (Addr × Obj)} {σ : L2.St} {H : Hp} {s : Shared} {A1 : Around} {n : Nat} {C g gl a q t it dx : Addr} {fld : Str} {fs : List (Str × V)} {zs : List V}
theorem FpOk.moved {H H' : Hp} {b : Addr} (f : FpOk X pins H b) (h : H' b = none) : FpOk X pins H' b := ⟨h, f.2⟩
theorem tup_loop {Rs : Result → Shared → Prop} (hh : A1.in1.handled = none) (few : zs.length ≤ sizeLine) (hq : H q = none) (ht : SqT X.K H t zs) (fp : FpOk X pins H it) (hqi : it ≠ q)
    (hdone : ∀ s, Inv X pins σ (upd H q (.lst zs)) s → Rs (.ok (.ret .none)) s) :
    ∀ (k i : Nat) (s : Shared), i + k = zs.length → Inv X pins σ (upd H q (.lst (zs.take i))) s → s.heap.IsTupleIter it t i → codeAny (model X.prog X.w) A1 (.builtin "list.extend.loop" ⟨[.ref q, .ref it, .none], []⟩) Rs s := by
  intro k
  induction k with
  | zero =>
    intro i s hi I st
    have e : zs.take i = zs := List.take_of_length_le (by omega)
    rw [e] at I
    refine codeAny_builtin PySem.F.entry_extend_loop ?_
    rw [Around.under_plainId PySem.F.plain_extend_loop _]
    show wpAny _ A1.in1 (pyNext (.ref it) >>= _) _ _ s
    have ht2 : SqT X.K (upd H q (.lst zs)) t zs := seqT (K0.Same.new _ hq) ht
    obtain ⟨its, rv, p, hz⟩ := I.tuple ht2
    have hl := rv.length
    obtain ⟨f0, f1, f2, f3, f4, f5⟩ := FpOk.moved (H' := upd H q (.lst zs)) fp (by rw [upd_ne hqi]; exact fp.1)
    refine wpAny_bind (wpAny_pyNext_tuple_end hh st (show s.heap.IsTuple t its.toArray from p) (by simp; omega) fun h' eb => ?_)
    have I1 : Inv X pins σ (upd H q (.lst zs)) { s with heap := h' } := I.turned (t' := s.toks) (fun b o hb e => eb b o hb e) f0 f1 f3 f4 f5
    exact wpAny_pure (hdone _ I1)
  | succ k ih =>
    intro i s hi I st
    refine codeAny_builtin PySem.F.entry_extend_loop ?_
    rw [Around.under_plainId PySem.F.plain_extend_loop _]
    show wpAny _ A1.in1 (pyNext (.ref it) >>= _) _ _ s
    have ht2 : SqT X.K (upd H q (.lst (zs.take i))) t zs := seqT (K0.Same.new _ hq) ht
    obtain ⟨its, rv, p, hz⟩ := I.tuple ht2
    have hlt : i < zs.length := by omega
    obtain ⟨u, hu, ru⟩ := rv.get (List.getElem?_eq_getElem hlt)
    obtain ⟨f0, f1, f2, f3, f4, f5⟩ := FpOk.moved (H' := upd H q (.lst (zs.take i))) fp (by rw [upd_ne hqi]; exact fp.1)
    refine wpAny_bind (wpAny_pyNext_tuple_item st (show s.heap.IsTuple t its.toArray from p) (x := u) (by simpa using hu) fun h' st' sb => ?_)
    have I1 : Inv X pins σ (upd H q (.lst (zs.take i))) { s with heap := h' } := I.turned (t' := s.toks) (fun b o hb e => (sb.2 b hb).trans e) f0 f1 f3 f4 f5
    show wpAny _ A1.in1 (updateSeq q (·.push u) >>= _) _ _ _
    obtain ⟨z, its2, k2, r2, hl2, e2⟩ := I1.lstM upd_same
    have tk : zs.take (i + 1) = zs.take i ++ [zs[i]] := by rw [List.take_add_one, List.getElem?_eq_getElem hlt]; rfl
    have sz : its2.length ≤ i := by
      rw [← r2.length, List.length_take]
      omega
    refine wpAny_bind (wpAny_updateSeq e2 rfl (wpAny_pure ⟨plainId_quiet PySem.F.plain_extend_loop _, ?_⟩) (by rw [List.size_toArray]; omega) (by show (its2.toArray.push u).size ≤ sizeLine + 1; rw [Array.size_push, List.size_toArray]; omega))
    have I2 := I1.lset (f := (·.push u)) (its' := its2 ++ [u]) (ys := zs.take (i + 1)) (t' := s.toks) upd_same e2 (by simp) (by rw [tk]; exact r2.append (.cons ru .nil)) (by rw [List.length_take]; omega)
    rw [upd_upd] at I2
    refine ih (i + 1) _ (by omega) I2 ?_
    obtain ⟨o, ho, hr⟩ := st'
    exact ⟨o, (Heap.get?_update_other _ _ (Ne.symm hqi)).trans ho, hr⟩
end
/-- list(o), o of the class at C: fld holds the tuple -/
def rListT (K : PySem.W.Frag) (C : Addr) (fld : Str) : List V → Hp → VK → Prop := fun xs H Q => ∃ a dx fs t zs, xs = [.ref a] ∧ H a = some (.ins C dx fs) ∧ fs.lookup fld = some (.ref t) ∧ SqT K H t zs ∧ zs.length ≤ 1000 ∧ ∀ q, H q = none → Q (.ref q) (upd H q (.lst zs))
/-- the length such an object tells -/
def spLenT (K : PySem.W.Frag) (C : Addr) (fld : Str) : Sp := fun vs H Q _ => ∃ a dx fs t zs, vs = [.ref a] ∧ H a = some (.ins C dx fs) ∧ fs.lookup fld = some (.ref t) ∧ SqT K H t zs ∧ Q (.int zs.length) H
structure LenC (X : Cx) (n : Nat) (C g : Addr) (fld : Str) : Prop where
  at_ : PySem.W.findIn X.K (.ref C) "__len__" = some (some (.ref g))
  fn : PySem.W.isFn X.K (.ref g) = true
  ok : FnR X.prog X.w X.K X.mg X.base CX0 n g (spLenT X.K C fld)
section
variable {X : Cx} {pins : List (Addr × Obj)} {σ : L2.St} {H : Hp} {s : Shared} {A : Around} {n : Nat} {C g gl a q t it dx : Addr} {fld : Str} {fs : List (Str × V)} {zs : List V}
theorem own_hintT {E' : Value → Shared → Prop} {Q : Bool → Shared → Prop} (sb : Sub X (n + 1) A) (T : LenC X n C gl fld) (I : Inv X pins σ H s) (ha : H a = some (.ins C dx fs)) (hf : fs.lookup fld = some (.ref t)) (ht : SqT X.K H t zs) (few : zs.length ≤ 1000)
    (h : ∀ s' b, Inv X pins σ H s' → Q b s') : wpAny (model X.prog X.w) A (Builtin.List.listLengthHint (.ref a)) Q E' s := by
  obtain ⟨mA, J, _⟩ := ins_get I.hok ha
  obtain ⟨od, J, _⟩ := J.look
  obtain ⟨m, hF⟩ := I.fr
  unfold Builtin.List.listLengthHint
  refine wpAny_bind (wpAny_bind (J.type.here ((PySem.W.looks_findIn I.kIn T.at_).here ?_)))
  refine PySem.W.KFB.if_not rfl ?_
  refine PySem.W.KFB.if_so rfl ?_
  refine wpAny_bind (wpAny_rule ?_)
  refine wpAny_bind (wpAny_attempt ?_)
  have hsp : spLenT X.K C fld [.ref a] H (fun v H' => v = .int zs.length ∧ H' = H) (fun _ _ _ => False) := ⟨a, dx, fs, t, zs, rfl, ha, hf, ht, rfl, rfl⟩
  refine PySem.W.len_K hF I.ok.mod.kin J T.at_ T.fn ?_
  refine wpAny_call (codeAny_mono (T.ok A.in1 X.stack s H [.ref a] [.ref a] _ _ sb.in1.room (sub_env sb.in1 I) (.cons rfl .nil) hsp) fun r s' hq => ?_)
  cases r with
  | error e => exact False.elim hq
  | ok fl =>
    cases fl with
    | next => exact False.elim hq
    | brk => exact False.elim hq
    | cont => exact False.elim hq
    | ret u =>
      obtain ⟨v, H', I', rv, ev, eH⟩ := I.after hq
      subst ev
      subst eH
      obtain ⟨tk, e⟩ := (show ∃ tk, u = Value.int zs.length tk from rv)
      cases e
      refine ⟨⟨by omega, by omega⟩, ?_⟩
      refine wpAny_bind (wpAny_pure ?_)
      refine PySem.W.KFB.if_not (by unfold Builtin.List.listTooLong; exact decide_eq_false (by rw [sizeLine_eq]; omega)) ?_
      exact wpAny_pure (h _ _ (I'.tok (s'.toks + 1)))
theorem call_listT (Ti : ItrC X n C g fld) (Tl : LenC X n C gl fld) (hc : X.calm = true) (hr : Room (n + 3) X.A) : CallR X (.type "list") (rListT X.K C fld) := by
  intro pins s σ H xs us Q I rv h
  obtain ⟨a, dx, fs, t, zs, rfl, ha, hf, ht, few, hq⟩ := h
  obtain ⟨u, rfl, ru⟩ := rv.one
  cases ru
  have sb : Sub X (n + 1) X.A.in1.in1 := (Sub.in1 (Sub.in1 (⟨hr, rfl⟩ : Sub X (n + 3) X.A)))
  refine callType_codes (Q₁ := fun obj s₁ => obj = .ref s.heap.objs.size ∧ s₁ = { s with heap := s.heap.push { cls := .type "list", data := .seq #[] } }) PySem.F.called_list (PySem.F.typeCall_list_1 _) PySem.F.entry_list_init
    (code_list_new _ ⟨rfl, rfl⟩) fun obj s₁ h₁ => ?_
  obtain ⟨rfl, rfl⟩ := h₁
  have hS : (s.heap.push { cls := .type "list", data := .seq #[] }).get? s.heap.objs.size = some { cls := .type "list", data := .seq #[] } := Heap.get?_push_size _ rfl
  refine ⟨⟨_, hS, rfl⟩, PySem.F.args_list_init_2 _ _, ?_⟩
  have fr : H s.heap.objs.size = none := I.hok.fresh (Nat.le_refl _)
  have hq := hq _ fr
  have I1 : Inv X pins σ (upd H s.heap.objs.size (.lst [])) { s with heap := s.heap.push { cls := .type "list", data := .seq #[] } } := I.lnew (its := []) (t' := s.toks) .nil (Nat.zero_le _)
  show wpAny _ _ (do let old ← Builtin.List.listItems (.ref s.heap.objs.size); Builtin.List.listUpdate (.ref s.heap.objs.size) (fun _ => #[]); letGo old.toList.reverse; Builtin.List.listExtendWith (.ref s.heap.objs.size) (.ref a) .none) _ _ _
  refine wpAny_bind ?_
  unfold Builtin.List.listItems
  refine wpAny_bind (wpAny_seqItems hS rfl (wpAny_pure ?_))
  show wpAny _ _ (updateSeq s.heap.objs.size (fun _ => #[]) >>= fun _ => letGo (#[] : Array Value).toList.reverse >>= fun _ => Builtin.List.listExtendWith (.ref s.heap.objs.size) (.ref a) .none) _ _ _
  refine wpAny_bind (wpAny_updateSeq hS rfl ?_)
  have I2 := I1.lset (f := fun _ => #[]) (its := []) (its' := []) (ys := []) (t' := s.toks) upd_same hS rfl .nil (Nat.zero_le _)
  rw [upd_upd] at I2
  refine wpAny_bind (wpAny_letGo ?_)
  generalize hQ : s.heap.objs.size = q at I2 fr hq ⊢
  have sH : Same H (upd H q (.lst [])) := K0.Same.new _ fr
  have hne : q ≠ a := (ne_of_none ha fr).symm
  have ha2 := sH _ _ ha
  have ht2 := seqT sH ht
  obtain ⟨mA, J, _⟩ := ins_get I2.hok ha2
  obtain ⟨od, J, _⟩ := J.look
  unfold Builtin.List.listExtendWith
  refine wpAny_bind (J.type.here ?_)
  have h1 : Builtin.List.listSameRef (.ref q) (.ref a) = false := by simp [Builtin.List.listSameRef, hne]
  have h2 : (Value.ref C == Value.type "list") = false := rfl
  have h3 : (Value.ref C == Value.type "tuple") = false := rfl
  simp only [h1, h2, h3, Bool.or_false, Bool.false_eq_true, if_false]
  refine wpAny_bind (own_iterT0 (sb.mono (Nat.le_succ n)) Ti I2 ha2 hf ht2 fun it s3 I3 hn3 hz3 => ?_)
  have sI : Same (upd H q (.lst [])) (upd (upd H q (.lst [])) it (TitO t it)) := K0.Same.new _ hn3
  refine wpAny_bind (wpAny_holding (own_hintT sb Tl I3 (sI _ _ ha2) hf (seqT sI ht2) few fun s4 bb I4 => ?_))
  obtain ⟨I5, fp5, st5⟩ := tit_drop I4 hn3 hz3
  have qi : it ≠ q := fun e => by rw [e, upd_same] at hn3; cases hn3
  have fpH : FpOk X pins H it := FpOk.moved fp5 (by rw [upd_ne qi] at hn3; exact hn3)
  have done : ∀ s, Inv X pins σ (upd H q (.lst zs)) s → wants (fun r s₂ => r = .none ∧ EP X pins σ Q (.ref q) s₂) X.xe (.ok (.ret .none)) s := fun s' I' => ⟨rfl, .ref q, _, I', rfl, hq⟩
  have I5' : Inv X pins σ (upd H q (.lst (zs.take 0))) s4 := by rw [List.take_zero]; exact I5
  have hd1 : X.A.in1.in1.handled = none := I.ok.hd hc
  refine wpAny_ite_split (fun _ => ?_) (fun _ => wpAny_pure ⟨plainId_quiet PySem.F.plain_extend_loop _, tup_loop (A1 := X.A.in1) hd1 (by rw [sizeLine_eq]; omega) fr ht fpH qi done zs.length 0 s4 (Nat.zero_add _) I5' st5⟩)
  refine wpAny_bind (wpAny_rule ?_)
  refine wpAny_bind ?_
  show wpAny _ _ (updateSeq q (·.push .none) >>= fun _ => updateSeq q (·.pop)) _ _ _
  obtain ⟨z, its, k, r3, hl3, e3⟩ := I5.lstM upd_same
  cases r3
  refine wpAny_bind (wpAny_updateSeq e3 rfl ?_)
  have I6 := I5.lset (f := (·.push Value.none)) (its' := [Value.none]) (ys := [.non]) (t' := s4.toks) upd_same e3 (by simp) (.cons rfl .nil) (by rw [List.length_singleton, sizeLine_eq]; decide)
  obtain ⟨z4, its4, k4, r4, hl4, e4⟩ := I6.lstM upd_same
  obtain ⟨u4, rfl, ru4⟩ := r4.one
  refine wpAny_updateSeq e4 rfl ?_ (by show 1 ≤ sizeLine; rw [sizeLine_eq]; decide) (by show 0 ≤ sizeLine + 1; exact Nat.zero_le _)
  have I7 := I6.lset (f := (·.pop)) (its := [u4]) (its' := []) (ys := []) (t' := s4.toks) upd_same e4 (by rfl) .nil (Nat.zero_le _)
  rw [upd_upd, upd_upd] at I7
  have e0 : upd H q (.lst []) = upd H q (.lst (zs.take 0)) := by rw [List.take_zero]
  rw [e0] at I7
  refine wpAny_pure ⟨plainId_quiet PySem.F.plain_extend_loop _, tup_loop (A1 := X.A.in1) hd1 (by rw [sizeLine_eq]; omega) fr ht fpH qi done zs.length 0 _ (Nat.zero_add _) I7 ?_⟩
  obtain ⟨o, ho, hr⟩ := st5
  exact ⟨o, (Heap.get?_update_other _ _ (Ne.symm qi)).trans ((Heap.get?_update_other _ _ (Ne.symm qi)).trans ho), hr⟩
end
/-- for x in o -/
def iOwnT (K : PySem.W.Frag) (C : Addr) (fld : Str) (ta : TE) : TI := fun σ H R => ta σ H fun x H1 => ∃ a dx fs t zs, x = .ref a ∧ H1 a = some (.ins C dx fs) ∧ fs.lookup fld = some (.ref t) ∧ SqT K H1 t zs ∧ R (Itt K t) H1
section
variable {X : Cx} {tg e : Expr} {ta : TE} {n : Nat} {C g : Addr} {fld : Str}
theorem pi_ownT (T : ItrC X n C g fld) (hr : Room n X.A) (he : PE X e ta) : PI X tg e (iOwnT X.K C fld ta) := by
  refine ⟨fun pins s σ H R I h => ?_⟩
  refine thn (he.run pins s σ H _ I h) fun v s1 ⟨x, H1, I1, r1, a, dx, fs, t, zs, ex, ha, hf, ht, q⟩ => ?_
  subst ex
  cases r1
  refine own_iterT (A := X.A) ⟨hr, rfl⟩ T I1 ha hf ht fun it s' I' fp st => ?_
  refine ⟨it, [it], _, _, H1, rfl, I', turn_tuple t it, st, fun b hb => ?_, q⟩
  have e : b = it := by simpa using hb
  rw [e]
  exact fp
end
end K0

/-! ## R1 -/
set_option maxRecDepth 100000
set_option maxHeartbeats 2000000
namespace K0
open PySem L2 NS RZ
/-! ### is_ascending -/
section
variable {K : PySem.W.Frag} {a b : Addr} {xs ys : List V}
theorem walk_zipT {n : Nat} (hn : n = min xs.length ys.length) : Walk (ItzT K a b) n (fun H => SqT K H a xs ∧ SqT K H b ys) (YPair (fun i => xs[i]?) (fun i => ys[i]?)) := by
  subst hn
  refine ⟨fun i _ hi q => ?_, fun _ q => ⟨xs, ys, q.1, q.2, by omega⟩, fun i H v H' _ q y => ?_⟩
  · have h1 : i < xs.length := by omega
    have h2 : i < ys.length := by omega
    exact ⟨xs, ys, xs[i], ys[i], q.1, q.2, by simp [h1], by simp [h2]⟩
  · obtain ⟨T, x, z, h1, h2, h3, h4, h5⟩ := y
    exact ⟨T, x, z, h1, h2, h3, h4 xs q.1, h5 ys q.2⟩
end
abbrev sIsAsc : Stmt := top 16
/-- the keys ascend, each under the next -/
def ascB : List NestedKey → Bool
  | a :: b :: r => ltK a b && ascB (b :: r)
  | _ => true
/-- Python has an order of each two neighbours -/
def okAdj : List NestedKey → Prop
  | a :: b :: r => okK a b = true ∧ okAdj (b :: r)
  | _ => True
theorem ascB_at : ∀ ks : List NestedKey, ((List.range (ks.length - 1)).map fun i => ltK (ks.getD i .none) (ks.getD (i + 1) .none)).all id = ascB ks
  | [] => rfl
  | [a] => rfl
  | a :: b :: r => by
    have ih := ascB_at (b :: r)
    have e : (a :: b :: r).length - 1 = ((b :: r).length - 1) + 1 := by simp
    rw [e, List.range_succ_eq_map, List.map_cons, List.all_cons, List.map_map]
    show (ltK a b && _) = (ltK a b && ascB (b :: r))
    rw [← ih]
    rfl
theorem okAdj_at : ∀ (ks : List NestedKey) (i : Nat), okAdj ks → i + 1 < ks.length → okK (ks.getD i .none) (ks.getD (i + 1) .none) = true
  | [], i, _, h => absurd h (Nat.not_lt_zero _)
  | [a], i, _, h => by simp at h
  | a :: b :: r, 0, o, _ => o.1
  | a :: b :: r, i + 1, o, h => okAdj_at (b :: r) i o.2 (by simpa using h)
theorem kvAll_at {K : PySem.W.Frag} {H : Hp} : ∀ {vs : List V} {ks : List NestedKey}, KvAll K H vs ks → ∀ i x, vs[i]? = some x → Kv K H x (ks.getD i .none)
  | _, _, .nil, i, x, h => by simp at h
  | _, _, .cons (k := k) h1 h2, 0, x, h => by
    obtain rfl := Option.some.inj h
    exact h1
  | _, _, .cons h1 h2, i + 1, x, h => kvAll_at h2 i x h
theorem kvAll_len {K : PySem.W.Frag} {H : Hp} : ∀ {vs : List V} {ks : List NestedKey}, KvAll K H vs ks → vs.length = ks.length
  | _, _, .nil => rfl
  | _, _, .cons h1 h2 => by rw [List.length_cons, List.length_cons, kvAll_len h2]
theorem kvAll_same {K : PySem.W.Frag} {H H' : Hp} (s : Same H H') {vs : List V} {ks : List NestedKey} (h : KvAll K H vs ks) : KvAll K H' vs ks := kvs_same (fun _ _ q => seqT s q) _ _ h
def spIsAsc (K : PySem.W.Frag) : Sp := fun vs H Q _ => ∃ (a : Addr) (xs : List V) (ks : List NestedKey), vs = [.ref a] ∧ SqT K H a xs ∧ xs ≠ [] ∧ xs.length ≤ 1000 ∧ KvAll K H xs ks ∧ okAdj ks ∧ (∀ k ∈ ks, k.depth ≤ 8) ∧ ∀ H', Same H H' → Q (.bl (ascB ks)) H'
structure TZ (K : PySem.W.Frag) (mg : Str → Option Value) : Prop where
  zip : mg "zip" = none
  all : mg "all" = none
theorem gPair_mono' {K : PySem.W.Frag} {i j : Nat} : ∀ x σ H (P R : L2.St → Hp → Prop), (∀ σ2 H2, P σ2 H2 → R σ2 H2) → gTup K 2 (gCons (gName i) (gCons (gName j) gNil)) x σ H P → gTup K 2 (gCons (gName i) (gCons (gName j) gNil)) x σ H R := gPair_mono
section
variable {P : Program} {w : World} {K : PySem.W.Frag} {mg : Str → Option Value} {base : Heap}
abbrev nIsAsc : List Str := ["values", "one", "other"]
theorem scIsAsc : FnScope nIsAsc ["values"] (defScope sIsAsc) := ⟨rfl, rfl, rfl, by decide +kernel, rfl, by decide +kernel, by decide +kernel⟩
theorem ok_isAsc {f : Addr} {fd : FuncData} (F : Fun K "is_ascending" "is_ascending" sIsAsc f fd) (T : TZ K mg) : FnOk P w K mg base CX0 1 f fd ["values"] (spIsAsc K) := by
  refine F.ok scIsAsc (fun vs H Q E h => ?_) (fun cdv A outer s H vs Q E hr h => ?_)
  · obtain ⟨a, xs, ks, rfl, _⟩ := h
    rfl
  · obtain ⟨a, xs, ks, rfl, ha, ne, few, kv, ok, dp, k⟩ := h
    refine ⟨_, pss_one (ps_ret (pe_callB (cr_all rfl) (by rfl) T.all (by decide +kernel) (pa_cons (pe_lc (own := [("one", 1), ("other", 2)]) (g := gTup K 2 (gCons (gName 1) (gCons (gName 2) gNil))) (tt := tYes) rfl scIsAsc.nd
      (pi_zipA (by rfl) T.zip (pa_cons (pv 0) (pa_cons (pe_slice sl_tup (pv 0) (po_some pe_int) po_none) pa_nil)))
      (blkOk_by (own := [("one", 1), ("other", 2)]) (N := nIsAsc) (sc := defScope sIsAsc) (by decide +kernel))
      (fun _ _ _ _ _ => pg_tup rfl (pgs_cons (pg_name (i := 1) scIsAsc.nd rfl (Or.inl rfl)) (pgs_cons (pg_name (i := 2) scIsAsc.nd rfl (Or.inl rfl)) pgs_nil))) (fun _ _ _ _ _ => pts_nil)
      (fun _ _ _ _ _ => pe_cmpR (r := rLtN K) (op_ltN hr.units) (pv 1) (pv 2) (nomark _))) pa_nil))), ?_⟩
    have n1 : xs.length = ks.length := kvAll_len kv
    have pos : 0 < xs.length := List.length_pos_iff.mpr ne
    refine ⟨_, rfl, _, rfl, ⟨1, rfl, ⟨a, xs, rfl, ha, ?_, fun b hb => ?_⟩⟩⟩
    · rintro ⟨e, _⟩
      have z : HT.sIx xs.length 0 (some ((1 : Nat) : Int)) = min 1 xs.length := HT.sIx_nat _ _ 1
      have e' : HT.sIx xs.length 0 (some ((1 : Nat) : Int)) = 0 := e
      omega
    · have ec : cutV xs (some 1) none = xs.drop 1 := by
        unfold cutV
        have z : HT.sIx xs.length 0 (some ((1 : Nat) : Int)) = min 1 xs.length := HT.sIx_nat _ _ 1
        have z2 : HT.sIx xs.length 0 (some 1) = 1 := by
          have z3 : HT.sIx xs.length 0 (some 1) = min 1 xs.length := z
          omega
        rw [z2, HT.sIx_none]
        exact List.take_of_length_le (by rw [List.length_drop]; omega)
      rw [ec]
      have s1 : Same H (upd H b (.tup (xs.drop 1))) := K0.Same.new _ hb
      have hl : (xs.drop 1).length = xs.length - 1 := List.length_drop
      refine ⟨a, b, xs, xs.drop 1, rfl, .inr ⟨seqT s1 ha, SqT.of upd_same, fun D hD => lc_pure (f := fun i => .bl (ltK (ks.getD i .none) (ks.getD (i + 1) .none))) (walk_zipT (n := xs.length - 1) (by omega)) (by rw [sizeLine_eq]; omega) hD
        (fun H1 s2 => ⟨seqT (K0.Same.tr s1 s2) ha, SqT.of (s2 _ _ upd_same)⟩) ?_ gPair_mono ?_⟩⟩
      · rintro i x H2 H3 hi s2 ⟨T, y, z, rfl, hT, rfl, hy, hz⟩
        have hz' : xs[i + 1]? = some z := by
          have q : (xs.drop 1)[i]? = some z := hz
          rw [List.getElem?_drop, Nat.add_comm] at q
          exact q
        refine ⟨T, _, rfl, SqT.of upd_same, rfl, _, _, rfl, _, _, rfl, rfl, rfl, fun Q' q => ⟨_, rfl, _, rfl, ?_⟩⟩
        have sT : Same H2 (upd H2 T (.tup [y, z])) := K0.Same.new _ hT
        have s3 : Same H (upd H2 T (.tup [y, z])) := K0.Same.tr s1 (K0.Same.tr s2 sT)
        have kv2 := kvAll_same s3 kv
        exact ⟨_, _, kvAll_at kv2 i y hy, kvAll_at kv2 (i + 1) z hz', okAdj_at ks i ok (by omega), dp _ (by
          have : i < ks.length := by omega
          have e : ks.getD i .none = ks[i] := by simp [List.getD, this]
          rw [e]
          exact List.getElem_mem this), q _ sT⟩
      · intro H2 s2 hD2
        refine ⟨D, (List.range (xs.length - 1)).map fun i => ltK (ks.getD i .none) (ks.getD (i + 1) .none), rfl, ?_, ?_⟩
        · rw [List.map_map]
          exact SqL.of hD2
        · rw [n1, ascB_at]
          exact k H2 (K0.Same.tr s1 s2)
end
end K0

/-! ## R2 -/
set_option maxRecDepth 100000
set_option maxHeartbeats 2000000
namespace K0
open PySem L2 NS RZ
/-! ### _tables_of -/
abbrev sTabsOf : Stmt := top 23
def tabsOf (cs : List CL) : List (Key × V) := cs.foldl (fun kvs c => putK kvs (Sum.inr c.1) (V.int c.2.length)) []
theorem tabsOf_take (cs : List CL) (i : Nat) (c : CL) (h : cs[i]? = some c) : tabsOf (cs.take (i + 1)) = putK (tabsOf (cs.take i)) (Sum.inr c.1) (V.int c.2.length) := by
  unfold tabsOf
  rw [List.take_add_one, h, Option.toList, List.foldl_append]
  rfl
theorem tabsOf_snoc (cs : List CL) (c : CL) : tabsOf (cs ++ [c]) = putK (tabsOf cs) (Sum.inr c.1) (V.int c.2.length) := by
  unfold tabsOf
  rw [List.foldl_append]
  rfl
theorem snoc_ind {α : Type} {p : List α → Prop} (h0 : p []) (hs : ∀ l a, p l → p (l ++ [a])) (l : List α) : p l := by
  have z : ∀ r : List α, p r.reverse := by
    intro r
    induction r with
    | nil => exact h0
    | cons a r ih => rw [List.reverse_cons]; exact hs _ _ ih
  have q := z l.reverse
  rwa [List.reverse_reverse] at q
theorem tabsOf_len (cs : List CL) : (tabsOf cs).length ≤ cs.length := by
  induction cs using snoc_ind with
  | h0 => exact Nat.le_refl _
  | hs l c ih =>
    rw [tabsOf_snoc, List.length_append]
    have := length_putK (tabsOf l) (Sum.inr c.1 : Key) (V.int c.2.length)
    simp only [List.length_singleton]
    omega
theorem tabsOf_val (cs : List CL) (same : ∀ c ∈ cs, ∀ c' ∈ cs, c.1 = c'.1 → c.2.length = c'.2.length) : ∀ c ∈ cs, valV (tabsOf cs) (Sum.inr c.1 : Key) = some (V.int c.2.length) := by
  induction cs using snoc_ind with
  | h0 => intro c h; cases h
  | hs l a ih =>
    intro c hc
    rw [tabsOf_snoc, valV_put]
    by_cases e : (Sum.inr c.1 : Key) = Sum.inr a.1
    · rw [if_pos e]
      have e2 : c.1 = a.1 := by
        injection e
      rw [same c hc a (List.mem_append_right _ List.mem_cons_self) e2]
    · rw [if_neg e]
      rcases List.mem_append.mp hc with h | h
      · exact ih (fun x hx y hy => same x (List.mem_append_left _ hx) y (List.mem_append_left _ hy)) c h
      · rw [List.mem_singleton.mp h] at e
        exact absurd rfl e
def spTabsOf (K : PySem.W.Frag) : Sp := fun vs H Q _ => ∃ (a : Addr) (ts : List Addr) (cs : List CL), vs = [.ref a] ∧ SqT K H a (ts.map V.ref) ∧ Cls H ts cs ∧ ts.length ≤ 1000 ∧ ∀ d H', Same H H' → H d = none → H' d = some (.dK (tabsOf cs)) → Q (.ref d) H'
def rLenS (K : PySem.W.Frag) : List V → Hp → VK → Prop := fun xs H Q => ∃ p ys, xs = [.ref p] ∧ (SqL K H p ys ∨ SqT K H p ys) ∧ Q (.int ys.length) H
section
variable {P : Program} {w : World} {K : PySem.W.Frag} {mg : Str → Option Value} {base : Heap}
abbrev nTabsOf : List Str := ["clauses", "table", "columns"]
theorem scTabsOf : FnScope nTabsOf ["clauses"] (defScope sTabsOf) := ⟨rfl, rfl, rfl, by decide +kernel, rfl, by decide +kernel, by decide +kernel⟩
theorem ok_tabsOf {f : Addr} {fd : FuncData} (F : Fun K "_tables_of" "_tables_of" sTabsOf f fd) (T : TA K mg) : FnOk P w K mg base CX0 1 f fd ["clauses"] (spTabsOf K) := by
  refine F.ok scTabsOf (fun vs H Q E h => ?_) (fun cdv A outer s H vs Q E hr h => ?_)
  · obtain ⟨a, ts, cs, rfl, _⟩ := h
    rfl
  · obtain ⟨a, ts, cs, rfl, ha, hc, many, k⟩ := h
    refine ⟨_, pss_one (ps_ret (pe_dc (own := [("table", 1), ("columns", 2)]) (g := gTup K 2 (gCons (gName 1) (gCons (gName 2) gNil))) (tt := tYes) (tk := tVar 1) (tv := tCB (rLenS K) (tCons (tVar 2) tNil)) rfl scTabsOf.nd (pi_tup (pv 0))
      (blkOk_by (own := [("table", 1), ("columns", 2)]) (N := nTabsOf) (sc := defScope sTabsOf) (by decide +kernel))
      (fun _ _ _ _ _ => pg_tup rfl (pgs_cons (pg_name (i := 1) scTabsOf.nd rfl (Or.inl rfl)) (pgs_cons (pg_name (i := 2) scTabsOf.nd rfl (Or.inl rfl)) pgs_nil))) (fun _ _ _ _ _ => pts_nil)
      (fun _ _ _ _ _ => pv 1) (fun _ _ _ _ _ => pe_callB (id := "len") (r := rLenS K) call_len_seq (by rfl) T.len PySem.boot_len (pa_cons (pv 2) pa_nil)))), ?_⟩
    refine ⟨_, rfl, a, rfl, ⟨_, ha⟩, fun D hD => dc_tup (K := K) (a := a) (xs := ts.map V.ref) (fun i H' => Same H H' ∧ H' D = some (.dK (tabsOf (cs.take i)))) ⟨K0.Same.new _ hD, upd_same⟩ (fun i H' _ s => seqT s.1 ha) ?_ ?_⟩
    · rintro i x H1 hx ⟨s1, e1⟩
      rw [List.getElem?_map] at hx
      obtain ⟨t, ht, rfl⟩ := Option.map_eq_some_iff.mp hx
      obtain ⟨hti, et⟩ := List.getElem?_eq_some_iff.mp ht
      obtain ⟨c, hci, hA⟩ := hc.at_ i hti
      rw [et] at hA
      obtain ⟨t2, g1, g2⟩ := hA
      refine ⟨t, _, rfl, SqT.of (s1 _ _ g1), rfl, _, _, rfl, _, _, rfl, rfl, rfl, ?_⟩
      dsimp only [tYes]
      rw [if_pos rfl]
      have lz := tabsOf_len (cs.take i)
      rw [List.length_take] at lz
      refine ⟨_, rfl, _, rfl, t2, _, rfl, .inr (SqT.of (s1 _ _ g2)), _, Sum.inr c.1, rfl, e1, by rw [sizeLine_eq]; omega, fun b o e => ?_, ?_⟩
      · rw [upd_ne (ne_of_none e hD)]
        exact s1 _ _ e
      · rw [upd_same, tabsOf_take _ _ _ hci, List.length_map]
    · rintro H1 ⟨s1, e1⟩
      rw [List.length_map, hc.len, List.take_length] at e1
      exact k D H1 s1 hD e1
end
end K0

/-! ## R3 -/
set_option maxRecDepth 100000
set_option maxHeartbeats 2000000
namespace K0
open PySem L2 NS RZ
/-! ### _are_clauses, of clauses -/
abbrev sAreCl : Stmt := top 24
/-- clauses of a question -/
structure WfC (cs : List CL) : Prop where
  some_ : cs ≠ []
  few : cs.length ≤ 8
  tab : ∀ c ∈ cs, nameS c.1 = true
  nam : ∀ c ∈ cs, ∀ k ∈ c.2, nameS k = true
  wide : ∀ c ∈ cs, 1 ≤ c.2.length ∧ c.2.length ≤ 8
  up : cs.Pairwise fun c c' => ltC c c' = true
  same : ∀ c ∈ cs, ∀ c' ∈ cs, c.1 = c'.1 → c.2.length = c'.2.length
  cols : ∃ pool : List Str, pool.length ≤ 8 ∧ ∀ c ∈ cs, ∀ k ∈ c.2, k ∈ pool
theorem colsIn_mem {cs : List CL} {k : Str} : k ∈ colsIn cs ↔ ∃ c ∈ cs, k ∈ c.2 := by
  unfold colsIn
  exact List.mem_flatMap
theorem WfC.ncols {cs : List CL} (g : WfC cs) {ns : List Str} (h : IsCols (colsIn cs) ns) : ns.length ≤ 8 := by
  obtain ⟨pool, p1, p2⟩ := g.cols
  refine Nat.le_trans (nodup_le ns pool h.2.1 fun k hk => ?_) p1
  obtain ⟨c, hc, q⟩ := colsIn_mem.mp ((h.2.2 k).mp hk)
  exact p2 c hc k q
theorem WfC.total {cs : List CL} (g : WfC cs) : (colsIn cs).length ≤ 64 := by
  have z := colsIn_few (cs := cs) (k := 8) fun c hc => (g.wide c hc).2
  have := g.few
  omega
def spAreCl (K : PySem.W.Frag) : Sp := fun vs H Q _ => ∃ (a : Addr) (ts : List Addr) (cs : List CL), vs = [.ref a] ∧ SqT K H a (ts.map V.ref) ∧ Cls H ts cs ∧ WfC cs ∧ (colsIn cs).length < 64 ∧ ∀ H', Same H H' → Q (.bl true) H'
theorem tyT {K : PySem.W.Frag} {H : Hp} {a : Addr} {xs : List V} (h : SqT K H a xs) : TyX K H (.ref a) (.type "tuple") := by
  rcases h with (h | ⟨o, h⟩) | ⟨o, its, n, h1, h2, _⟩
  · exact .base (.tup h)
  · exact .fTuple h
  · exact .kTuple h1 h2
theorem cls_kv {K : PySem.W.Frag} {H : Hp} : ∀ {ts : List Addr} {cs : List CL}, Cls H ts cs → KvAll K H (ts.map V.ref) (cs.map keyC)
  | _, _, .nil => .nil
  | _, _, .cons h r => .cons (h.kr (K := K)).1 (cls_kv r)
theorem okAdj_cls : ∀ cs : List CL, okAdj (cs.map keyC)
  | [] => True.intro
  | [a] => True.intro
  | a :: b :: r => ⟨ok_clauses a b, okAdj_cls (b :: r)⟩
theorem ascB_cls : ∀ {cs : List CL}, cs.Pairwise (fun c c' => ltC c c' = true) → ascB (cs.map keyC) = true
  | [], _ => rfl
  | [a], _ => rfl
  | a :: b :: r, h => by
    obtain ⟨h1, h2⟩ := List.pairwise_cons.mp h
    show (ltK (keyC a) (keyC b) && ascB ((b :: r).map keyC)) = true
    rw [ascB_cls h2, Bool.and_true]
    exact h1 b List.mem_cons_self
theorem nameS_len {z : Str} (h : nameS z = true) : z.length ≤ 8 := by
  unfold nameS at h
  rw [Bool.and_eq_true, Bool.and_eq_true] at h
  exact of_decide_eq_true h.1.2
/-- a clause of names is one -/
theorem ClA.clv {K : PySem.W.Frag} {H : Hp} {t : Addr} {c : CL} (h : ClA H t c) (h1 : nameS c.1 = true) (h2 : ∀ k ∈ c.2, nameS k = true) (h3 : 1 ≤ c.2.length ∧ c.2.length ≤ 8) : ClV K H (.ref t) true := by
  obtain ⟨t2, g1, g2⟩ := h
  have sz : ∀ x ∈ c.2.map V.str, Da H x ∧ Sz x := fun x hx => by
    obtain ⟨z, hz, rfl⟩ := List.mem_map.mp hx
    exact ⟨.str z, Nat.le_trans (nameS_len (h2 z hz)) (by decide)⟩
  have z := ClV.pair (K := K) g1 (.str c.1) (show Sz (.str c.1) from Nat.le_trans (nameS_len h1) (by decide)) (.tup g2) (fun a xs e h => by
    cases e
    rw [g2] at h
    cases h
    exact ⟨by rw [List.length_map]; omega, sz⟩)
  have e : (nameV (.str c.1) && (onTup H (fun ys => ys.all nameV) (.ref t2) && onTup H (fun ys => widB ys.length) (.ref t2))) = true := by
    simp only [onTup, g2]
    have e1 : nameV (.str c.1) = true := h1
    have e2 : (c.2.map V.str).all nameV = true := by
      rw [List.all_map, List.all_eq_true]
      exact h2
    have e3 : widB (c.2.map V.str).length = true := by
      rw [List.length_map]
      unfold widB
      rw [decide_eq_true h3.1, decide_eq_true h3.2]
      rfl
    rw [e1, e2, e3]
    rfl
  rw [e] at z
  exact z
theorem all_true {n : Nat} : ((List.range n).map fun _ => true).all id = true := by
  rw [List.all_map]
  exact List.all_eq_true.mpr fun _ _ => rfl
structure TC (K : PySem.W.Frag) (mg : Str → Option Value) (fI fW fN : Addr) : Prop extends T3 K mg fI fW fN where
  mc : ∃ t, mg "MAX_CLAUSES" = some (.int 8 t)
  mcol : ∃ t, mg "MAX_COLUMNS" = some (.int 8 t)
section
variable {P : Program} {w : World} {K : PySem.W.Frag} {mg : Str → Option Value} {base : Heap} {fI fW fN fC fA fT fO : Addr} {fdC fdA fdT fdO : FuncData}
abbrev nAreCl : List Str := ["value", "widths", "clause", "table", "columns"]
theorem scAreCl : FnScope nAreCl ["value"] (defScope sAreCl) := ⟨rfl, rfl, rfl, by decide +kernel, rfl, by decide +kernel, by decide +kernel⟩
theorem ok_areCl {f : Addr} {fd : FuncData} (F : Fun K "_are_clauses" "_are_clauses" sAreCl f fd) (T : TC K mg fI fW fN)
    (eC : Gl K mg "is_clause" fC) (GC : FnOk P w K mg base CX0 3 fC fdC ["value"] (spIsCl K)) (bC : Binds K fdC ["value"] [])
    (eA : Gl K mg "is_ascending" fA) (GA : FnOk P w K mg base CX0 1 fA fdA ["values"] (spIsAsc K)) (bA : Binds K fdA ["values"] [])
    (eT : Gl K mg "_tables_of" fT) (GT : FnOk P w K mg base CX0 1 fT fdT ["clauses"] (spTabsOf K)) (bT : Binds K fdT ["clauses"] [])
    (eO : Gl K mg "_columns_of" fO) (GO : FnOk P w K mg base CX0 1 fO fdO ["clauses"] (spColsOf K)) (bO : Binds K fdO ["clauses"] []) :
    FnOk P w K mg base CX0 4 f fd ["value"] (spAreCl K) := by
  refine F.ok scAreCl (fun vs H Q E h => ?_) (fun cdv A outer s H vs Q E hr h => ?_)
  · obtain ⟨a, ts, cs, rfl, _⟩ := h
    rfl
  · obtain ⟨a, ts, cs, rfl, ha, hc, g, tot, k⟩ := h
    have hr1 : Room 1 _ := hr.mono (by decide)
    obtain ⟨tm, hm⟩ := T.mc
    obtain ⟨tk, hk⟩ := T.mcol
    refine ⟨_, pss_cons (ps_if (pw_or (pt_not (pt_val (pe_callB call_isi (by rfl) T.isi (by decide +kernel) (pa_cons (pv 0) (pa_cons (pe_bltn (v := .ty "tuple") (by rfl) T.tup (by decide +kernel) rfl) pa_nil)))))
        (pw_or1 (pt_not (pt_chain op_le op_le pe_int (pe_callB call_len_seq (by rfl) T.len PySem.boot_len (pa_cons (pv 0) pa_nil)) (pe_glob (v := .int 8) (by rfl) hm ⟨tm, rfl⟩))))).pt (pss_one (ps_ret pe_bl)) pss_nil)
      (pss_cons (ps_if (pw_or (pt_not (pt_val (pe_callB (cr_all rfl) (by rfl) T.all (by decide +kernel) (pa_cons (pe_lc (own := [("clause", 2)]) (g := gName 2) (tt := tYes) rfl scAreCl.nd (pi_tup (pv 0))
          (blkOk_by (own := [("clause", 2)]) (N := nAreCl) (sc := defScope sAreCl) (by decide +kernel)) (fun _ _ _ _ _ => pg_name (i := 2) scAreCl.nd rfl (Or.inl rfl)) (fun _ _ _ _ _ => pts_nil)
          (fun _ _ _ _ _ => pe_call GC hr (by rfl) eC.g eC.k bC .nil pass0 (pa_cons (pv 2) pa_nil))) pa_nil))))
        (pw_or1 (pt_not (pt_val (pe_call GA hr1 (by rfl) eA.g eA.k bA .nil pass0 (pa_cons (pv 0) pa_nil)))))).pt (pss_one (ps_ret pe_bl)) pss_nil)
      (pss_cons (ps_set (i := 1) scAreCl.nd rfl (Or.inr rfl) (pe_call GT hr1 (by rfl) eT.g eT.k bT .nil pass0 (pa_cons (pv 0) pa_nil)))
      (pss_one (ps_ret (pe_and (pe_cmpR op_le (pe_callB call_len_seq (by rfl) T.len PySem.boot_len (pa_cons (pe_call GO hr1 (by rfl) eO.g eO.k bO .nil pass0 (pa_cons (pv 0) pa_nil)) pa_nil)) (pe_glob (v := .int 8) (by rfl) hk ⟨tk, rfl⟩) (nomark _))
        (pe_one (pe_callB (cr_all rfl) (by rfl) T.all (by decide +kernel) (pa_cons (pe_lc (own := [("table", 3), ("columns", 4)]) (g := gTup K 2 (gCons (gName 3) (gCons (gName 4) gNil))) (tt := tYes) rfl scAreCl.nd (pi_tup (pv 0))
          (blkOk_by (own := [("table", 3), ("columns", 4)]) (N := nAreCl) (sc := defScope sAreCl) (by decide +kernel))
          (fun _ _ _ _ _ => pg_tup rfl (pgs_cons (pg_name (i := 3) scAreCl.nd rfl (Or.inl rfl)) (pgs_cons (pg_name (i := 4) scAreCl.nd rfl (Or.inl rfl)) pgs_nil))) (fun _ _ _ _ _ => pts_nil)
          (fun _ _ _ _ _ => pe_cmpR op_eq (pe_dget (lt1 hr.units) (pv 1) (pv 3) (fun _ _ => rfl)) (pe_callB (id := "len") (r := rLenS K) call_len_seq (by rfl) T.len PySem.boot_len (pa_cons (pv 4) pa_nil)) (nomark _))) pa_nil)))))))), ?_⟩
    have n1 : ts.length = cs.length := hc.len
    have c8 := g.few
    have c1 : 0 < cs.length := List.length_pos_iff.mpr g.some_
    refine ⟨_, rfl, _, _, _, _, true, rfl, .ty _, tyT ha, kit_ty (by decide +kernel), true, rfl, if_neg_of rfl ⟨_, rfl, a, _, rfl, .inr ha, _, _, rfl, rfl, _, rfl, ?_⟩⟩
    rw [List.length_map]
    refine if_pos_of (decide_eq_true (by omega)) ⟨_, _, rfl, rfl, _, rfl, ?_⟩
    rw [decide_eq_true (show (ts.length : Int) ≤ 8 by omega)]
    refine if_neg_of rfl ?_
    refine ⟨_, rfl, a, rfl, ⟨_, ha⟩, fun D hD => lc_pure (f := fun _ => .bl true) (walk_tup (K := K) (a := a) (xs := ts.map V.ref)) (by rw [List.length_map, sizeLine_eq]; omega) hD (fun H1 s1 => seqT s1 ha) ?_ gName_mono ?_⟩
    · rintro i x H1 H2 hi s1 ⟨rfl, hx⟩
      rw [List.getElem?_map] at hx
      obtain ⟨t, ht, rfl⟩ := Option.map_eq_some_iff.mp hx
      obtain ⟨hti, et⟩ := List.getElem?_eq_some_iff.mp ht
      obtain ⟨c, hci, hA⟩ := hc.at_ i hti
      rw [et] at hA
      have hcm := List.mem_of_getElem? hci
      exact ⟨rfl, fun Q' q => ⟨_, rfl, V.ref t, true, rfl, (hA.same s1).clv (g.tab c hcm) (g.nam c hcm) (g.wide c hcm), fun H4 s4 => q H4 s4⟩⟩
    · intro H1 s1 hD1
      have h1a := seqT s1 ha
      refine ⟨D, (List.range (ts.map V.ref).length).map fun _ => true, rfl, by rw [List.map_map]; exact SqL.of hD1, _, rfl, ?_⟩
      rw [all_true]
      refine if_neg_of rfl ⟨_, rfl, a, _, _, rfl, h1a, ?_, by rw [List.length_map]; omega, cls_kv (hc.same s1), okAdj_cls cs, fun k hk => ?_, fun H2 s2 => ?_⟩
      · intro e
        rw [List.map_eq_nil_iff] at e
        rw [e] at n1
        have : (0 : Nat) = cs.length := n1
        omega
      · obtain ⟨c, _, rfl⟩ := List.mem_map.mp hk
        rw [keyC_depth]
        decide
      rw [ascB_cls g.up]
      refine ⟨_, rfl, if_neg_of rfl ?_⟩
      have s02 := K0.Same.tr s1 s2
      refine ⟨_, rfl, a, ts, cs, rfl, seqT s02 ha, hc.same s02, by omega, fun d H3 s3 hd ed => ?_⟩
      have s03 := K0.Same.tr s02 s3
      refine ⟨_, rfl, a, ts, cs, rfl, seqT s03 ha, hc.same s03, tot, by omega, fun ns t H4 ic s4 ht et => ?_⟩
      have s04 := K0.Same.tr s03 s4
      have ed4 := s4 _ _ ed
      refine ⟨t, _, rfl, .inr (SqT.of et), _, _, rfl, rfl, _, rfl, ?_⟩
      have n8 := g.ncols ic
      rw [List.length_map]
      refine if_pos_of (decide_eq_true (by omega)) ?_
      refine ⟨_, rfl, a, rfl, ⟨_, seqT s04 ha⟩, fun D2 hD2 => lc_pure (f := fun _ => .bl true) (walk_tup (K := K) (a := a) (xs := ts.map V.ref)) (by rw [List.length_map, sizeLine_eq]; omega) hD2 (fun H5 s5 => seqT s5 (seqT s04 ha)) ?_ gPair_mono ?_⟩
      · rintro i x H5 H6 hi s5 ⟨rfl, hx⟩
        rw [List.getElem?_map] at hx
        obtain ⟨t', ht', rfl⟩ := Option.map_eq_some_iff.mp hx
        obtain ⟨hti, et'⟩ := List.getElem?_eq_some_iff.mp ht'
        obtain ⟨c, hci, hA⟩ := hc.at_ i hti
        rw [et'] at hA
        have hcm := List.mem_of_getElem? hci
        obtain ⟨t2, g1, g2⟩ := hA.same (K0.Same.tr s04 s5)
        refine ⟨t', _, rfl, SqT.of g1, rfl, _, _, rfl, _, _, rfl, rfl, rfl, fun Q' q => ?_⟩
        have dg : DGet H6 d (V.str c.1) (some (V.int c.2.length)) := by
          rw [← tabsOf_val cs g.same c hcm]
          exact DGet.k (k := Sum.inr c.1) (s5 _ _ ed4)
        refine ⟨_, rfl, _, rfl, d, V.int c.2.length, rfl, dg, _, rfl, t2, _, rfl, .inr (SqT.of g2), rfl, ?_⟩
        rw [List.length_map, decide_eq_true rfl]
        exact q H6 Same.rfl'
      · intro H5 s5 hD5
        refine ⟨D2, (List.range (ts.map V.ref).length).map fun _ => true, rfl, by rw [List.map_map]; exact SqL.of hD5, ?_⟩
        rw [all_true]
        exact k H5 (K0.Same.tr s04 s5)
end
end K0

/-! ## R4 -/
set_option maxRecDepth 100000
set_option maxHeartbeats 2000000
namespace K0
open PySem L2 NS RZ
theorem strs_all2 {as : List Str} {p : V → Bool} (h : ∀ k ∈ as, p (V.str k) = true) : (as.map V.str).all p = true := by
  rw [List.all_map, List.all_eq_true]
  exact h
theorem inV_strs {k : Str} : ∀ {ns : List Str}, inV (V.str k) (ns.map V.str) = decide (k ∈ ns)
  | [] => rfl
  | a :: ns => by
    have ih := inV_strs (k := k) (ns := ns)
    unfold inV at ih ⊢
    rw [List.map_cons, List.any_cons, ih]
    show (a == k || decide (k ∈ ns)) = decide (k ∈ a :: ns)
    by_cases e : a = k
    · subst e
      simp
    · have e2 : (a == k) = false := beq_eq_false_iff_ne.mpr e
      rw [e2, Bool.false_or]
      refine decide_eq_decide.mpr ⟨fun h => List.mem_cons_of_mem _ h, fun h => ?_⟩
      rcases List.mem_cons.mp h with q | q
      · exact absurd q.symm e
      · exact q
theorem flat_strs (ns : List Str) : (ns.map V.str).all flatV = true := strs_all2 fun _ _ => rfl
abbrev sAreAsk : Stmt := top 25
def spAreAsk (K : PySem.W.Frag) : Sp := fun vs H Q _ => ∃ (a b : Addr) (ts : List Addr) (cs : List CL) (as : List Str), vs = [.ref a, .ref b] ∧ SqT K H a (ts.map V.ref) ∧ Cls H ts cs ∧ (colsIn cs).length < 64 ∧ ts.length ≤ 1000 ∧
  H b = some (.tup (as.map V.str)) ∧ as.Nodup ∧ as.length ≤ 64 ∧ (∀ k ∈ as, nameS k = true) ∧ (∀ k ∈ as, k ∈ colsIn cs) ∧ ∀ H', Same H H' → Q (.bl true) H'
section
variable {P : Program} {w : World} {K : PySem.W.Frag} {mg : Str → Option Value} {base : Heap} {fI fW fN fA fD fO : Addr} {fdA fdD fdO : FuncData}
abbrev nAreAsk : List Str := ["clauses", "value", "columns", "column"]
theorem scAreAsk : FnScope nAreAsk ["clauses", "value"] (defScope sAreAsk) := ⟨rfl, rfl, rfl, by decide +kernel, rfl, by decide +kernel, by decide +kernel⟩
theorem ok_areAsk {f : Addr} {fd : FuncData} (F : Fun K "_are_asked" "_are_asked" sAreAsk f fd) (T : T2 K mg fI fW)
    (eA : Gl K mg "are_names" fA) (GA : FnOk P w K mg base CX0 2 fA fdA ["value"] spAreNam) (bA : Binds K fdA ["value"] [])
    (eD : Gl K mg "are_different" fD) (GD : FnOk P w K mg base CX0 1 fD fdD ["values"] (spDiff K)) (bD : Binds K fdD ["values"] [])
    (eO : Gl K mg "_columns_of" fO) (GO : FnOk P w K mg base CX0 1 fO fdO ["clauses"] (spColsOf K)) (bO : Binds K fdO ["clauses"] []) :
    FnOk P w K mg base CX0 3 f fd ["clauses", "value"] (spAreAsk K) := by
  refine F.ok scAreAsk (fun vs H Q E h => ?_) (fun cdv A outer s H vs Q E hr h => ?_)
  · obtain ⟨a, b, ts, cs, as, rfl, _⟩ := h
    rfl
  · obtain ⟨a, b, ts, cs, as, rfl, ha, hc, few, many, hb, nd, sh, nam, sub, k⟩ := h
    have hr1 : Room 1 _ := hr.mono (by decide)
    refine ⟨_, pss_cons (ps_if (pw_or (pt_not (pt_val (pe_call GA hr (by rfl) eA.g eA.k bA .nil pass0 (pa_cons (pv 1) pa_nil))))
        (pw_or1 (pt_not (pt_val (pe_call GD hr1 (by rfl) eD.g eD.k bD .nil pass0 (pa_cons (pv 1) pa_nil)))))).pt (pss_one (ps_ret pe_bl)) pss_nil)
      (pss_cons (ps_set (i := 2) scAreAsk.nd rfl (Or.inr rfl) (pe_call GO hr1 (by rfl) eO.g eO.k bO .nil pass0 (pa_cons (pv 0) pa_nil)))
      (pss_one (ps_ret (pe_callB (cr_all rfl) (by rfl) T.all (by decide +kernel) (pa_cons (pe_lc (own := [("column", 3)]) (g := gName 3) (tt := tYes) rfl scAreAsk.nd (pi_tup (pv 1))
          (blkOk_by (own := [("column", 3)]) (N := nAreAsk) (sc := defScope sAreAsk) (by decide +kernel)) (fun _ _ _ _ _ => pg_name (i := 3) scAreAsk.nd rfl (Or.inl rfl)) (fun _ _ _ _ _ => pts_nil)
          (fun _ _ _ _ _ => pe_cmpR (r := rIn K false) op_in_seq (pv 3) (pv 2) rfl)) pa_nil))))), ?_⟩
    have tu : Tu H (.ref b) := fun a' xs e h => by
      cases e
      rw [hb] at h
      cases h
      refine ⟨by rw [List.length_map]; omega, fun x hx => ?_⟩
      obtain ⟨z, hz, rfl⟩ := List.mem_map.mp hx
      exact ⟨.str z, Nat.le_trans (nameS_len (nam z hz)) (by decide)⟩
    refine ⟨_, rfl, .ref b, rfl, .tup hb, tu, fun H1 s1 => ⟨_, rfl, ?_⟩⟩
    have e1 : onTup H (fun xs => xs.all nameV) (.ref b) = true := by
      simp only [onTup, hb]
      exact strs_all2 nam
    rw [e1]
    refine if_neg_of rfl ⟨_, rfl, b, as, rfl, .inl (SqT.of (s1 _ _ hb)), by omega, fun H2 s2 => ⟨_, rfl, ?_⟩⟩
    rw [decide_eq_true nd]
    have s02 := K0.Same.tr s1 s2
    refine if_neg_of rfl ⟨_, rfl, a, ts, cs, rfl, seqT s02 ha, hc.same s02, few, many, fun ns t H3 ic s3 ht et => ?_⟩
    have s03 := K0.Same.tr s02 s3
    refine ⟨_, rfl, b, rfl, ⟨_, SqT.of (s03 _ _ hb)⟩, fun D hD => lc_pure (f := fun _ => .bl true) (walk_tup (K := K) (a := b) (xs := as.map V.str)) (by rw [List.length_map, sizeLine_eq]; omega) hD (fun H1 s1 => SqT.of (s1 _ _ (s03 _ _ hb))) ?_ gName_mono ?_⟩
    · rintro i x H4 H5 hi s4 ⟨rfl, hx⟩
      rw [List.getElem?_map] at hx
      obtain ⟨z, hz, rfl⟩ := Option.map_eq_some_iff.mp hx
      have zm := List.mem_of_getElem? hz
      refine ⟨rfl, fun Q' q => ⟨_, rfl, _, rfl, t, _, rfl, .inr (SqT.of (s4 _ _ et)), rfl, flat_strs ns, ?_⟩⟩
      have e : inV (V.str z) (ns.map V.str) = true := by
        rw [inV_strs]
        exact decide_eq_true ((ic.2.2 z).mpr (sub z zm))
      rw [e]
      exact q H5 Same.rfl'
    · intro H4 s4 hD4
      refine ⟨D, (List.range (as.map V.str).length).map fun _ => true, rfl, by rw [List.map_map]; exact SqL.of hD4, ?_⟩
      rw [all_true]
      exact k H4 (K0.Same.tr s03 s4)
end
/-! ### the class Question -/
abbrev sQ (j : Nat) : Stmt := inClass (top 28) j
/-- what can't be reached -/
theorem ps_never {X : Cx} {st : Stmt} : PS X st (fun _ _ _ => False) := ⟨fun _ _ _ _ _ _ h => h.elim⟩
def qF1 (tc : Addr) : List (Str × V) := putF "_clauses" (.ref tc) []
def qF2 (tc ta : Addr) : List (Str × V) := putF "_asked" (.ref ta) (qF1 tc)
def qF3 (tc ta to : Addr) : List (Str × V) := putF "_columns" (.ref to) (qF2 tc ta)
def qFs (tc ta to td : Addr) : List (Str × V) := putF "_tables" (.ref td) (qF3 tc ta to)
theorem putF_le (f : Str) (v : V) : ∀ l : List (Str × V), (putF f v l).length ≤ l.length + 1
  | [] => Nat.le_refl _
  | (g, x) :: r => by
    show (if g = f then (g, v) :: r else (g, x) :: putF f v r).length ≤ _
    have := putF_le f v r
    split <;> simp only [List.length_cons] <;> omega
theorem qF1_le (tc : Addr) : (qF1 tc).length ≤ 1 := putF_le _ _ _
theorem qF2_le (tc ta : Addr) : (qF2 tc ta).length ≤ 2 := Nat.le_trans (putF_le _ _ _) (Nat.succ_le_succ (qF1_le _))
theorem qF3_le (tc ta to : Addr) : (qF3 tc ta to).length ≤ 3 := Nat.le_trans (putF_le _ _ _) (Nat.succ_le_succ (qF2_le _ _))
theorem ne12 : ¬ ("_asked" : Str) = "_clauses" := by decide +kernel
theorem ne13 : ¬ ("_columns" : Str) = "_clauses" := by decide +kernel
theorem ne14 : ¬ ("_tables" : Str) = "_clauses" := by decide +kernel
theorem ne23 : ¬ ("_columns" : Str) = "_asked" := by decide +kernel
theorem ne24 : ¬ ("_tables" : Str) = "_asked" := by decide +kernel
theorem ne34 : ¬ ("_tables" : Str) = "_columns" := by decide +kernel
theorem qFs_clauses (tc ta to td : Addr) : (qFs tc ta to td).lookup ("_clauses" : Str) = some (.ref tc) := by
  unfold qFs qF3 qF2 qF1
  rw [lookup_putF, if_neg (fun e => ne14 e.symm), lookup_putF, if_neg (fun e => ne13 e.symm), lookup_putF, if_neg (fun e => ne12 e.symm), lookup_putF, if_pos rfl]
theorem qFs_asked (tc ta to td : Addr) : (qFs tc ta to td).lookup ("_asked" : Str) = some (.ref ta) := by
  unfold qFs qF3 qF2
  rw [lookup_putF, if_neg (fun e => ne24 e.symm), lookup_putF, if_neg (fun e => ne23 e.symm), lookup_putF, if_pos rfl]
theorem qFs_columns (tc ta to td : Addr) : (qFs tc ta to td).lookup ("_columns" : Str) = some (.ref to) := by
  unfold qFs qF3
  rw [lookup_putF, if_neg (fun e => ne34 e.symm), lookup_putF, if_pos rfl]
theorem qFs_tables (tc ta to td : Addr) : (qFs tc ta to td).lookup ("_tables" : Str) = some (.ref td) := by
  unfold qFs
  rw [lookup_putF, if_pos rfl]
theorem qFs_no {tc ta to td : Addr} {m : Str} (h1 : ¬ m = "_clauses") (h2 : ¬ m = "_asked") (h3 : ¬ m = "_columns") (h4 : ¬ m = "_tables") : (qFs tc ta to td).lookup m = none := by
  unfold qFs qF3 qF2 qF1
  rw [lookup_putF, if_neg h4, lookup_putF, if_neg h3, lookup_putF, if_neg h2, lookup_putF, if_neg h1]
  rfl
theorem sqT_kd {K : PySem.W.Frag} {H H' : Hp} {p a : Addr} {xs : List V} (h1 : ∀ xs, H p ≠ some (.tup xs)) (h2 : ∀ o u, H p ≠ some (.frz o u)) (k : Kd p H H') (h : SqT K H a xs) : SqT K H' a xs := by
  rcases h with (h | ⟨o, h⟩) | h
  · exact .inl (.inl (k _ _ (fun e => h1 _ (by rw [← e]; exact h)) h))
  · exact .inl (.inr ⟨o, k _ _ (fun e => h2 _ _ (by rw [← e]; exact h)) h⟩)
  · exact .inr h
theorem ClA.kdI {H H' : Hp} {t p : Addr} {c : CL} (h : ClA H t c) (hp : ∀ xs, H p ≠ some (.tup xs)) (k : Kd p H H') : ClA H' t c := by
  obtain ⟨t2, h1, h2⟩ := h
  exact ⟨t2, k _ _ (fun e => hp _ (by rw [← e]; exact h1)) h1, k _ _ (fun e => hp _ (by rw [← e]; exact h2)) h2⟩
theorem Cls.kdI {H H' : Hp} {p : Addr} (hp : ∀ xs, H p ≠ some (.tup xs)) (k : Kd p H H') : ∀ {ts : List Addr} {cs : List CL}, Cls H ts cs → Cls H' ts cs
  | _, _, .nil => .nil
  | _, _, .cons h r => .cons (h.kdI hp k) (r.kdI hp k)
/-- at p stands the question q -/
structure QuA (K : PySem.W.Frag) (C : Addr) (H : Hp) (p : Addr) (q : PQ) (tc ta to td : Addr) (ts : List Addr) (ns : List Str) : Prop where
  ob : ∃ dx, H p = some (.ins C dx (qFs tc ta to td))
  tcs : SqT K H tc (ts.map V.ref)
  cls : Cls H ts q.cls
  tas : H ta = some (.tup (q.asked.map V.str))
  tos : H to = some (.tup (ns.map V.str))
  col : IsCols (colsIn q.cls) ns
  tds : H td = some (.dK (tabsOf q.cls))
def QuO (K : PySem.W.Frag) (C : Addr) (H : Hp) (p : Addr) (q : PQ) : Prop := ∃ tc ta to td ts ns, QuA K C H p q tc ta to td ts ns
theorem QuA.same {K : PySem.W.Frag} {C : Addr} {H H' : Hp} {p : Addr} {q : PQ} {tc ta to td : Addr} {ts : List Addr} {ns : List Str} (h : QuA K C H p q tc ta to td ts ns) (s : Same H H') : QuA K C H' p q tc ta to td ts ns :=
  ⟨h.ob.imp fun _ e => s _ _ e, seqT s h.tcs, h.cls.same s, s _ _ h.tas, s _ _ h.tos, h.col, s _ _ h.tds⟩
theorem QuO.same {K : PySem.W.Frag} {C : Addr} {H H' : Hp} {p : Addr} {q : PQ} (h : QuO K C H p q) (s : Same H H') : QuO K C H' p q := by
  obtain ⟨tc, ta, to, td, ts, ns, h⟩ := h
  exact ⟨tc, ta, to, td, ts, ns, h.same s⟩
/-- a question's parts -/
structure WfQ (q : PQ) : Prop where
  c : WfC q.cls
  nd : q.asked.Nodup
  ask : ∀ k ∈ q.asked, k ∈ colsIn q.cls
theorem WfQ.nam {q : PQ} (g : WfQ q) : ∀ k ∈ q.asked, nameS k = true := fun k hk => by
  obtain ⟨c, hc, h⟩ := colsIn_mem.mp (g.ask k hk)
  exact g.c.nam c hc k h
theorem WfQ.few {q : PQ} (g : WfQ q) : q.asked.length ≤ 8 := by
  obtain ⟨pool, p1, p2⟩ := g.c.cols
  refine Nat.le_trans (nodup_le _ pool g.nd fun k hk => ?_) p1
  obtain ⟨c, hc, h⟩ := colsIn_mem.mp (g.ask k hk)
  exact p2 c hc k h
structure TQu (K : PySem.W.Frag) (C : Addr) : Prop where
  cl : L2.Cls K C
  n1 : NoAttr K C "_clauses"
  n2 : NoAttr K C "_asked"
  n3 : NoAttr K C "_columns"
  n4 : NoAttr K C "_tables"
def spInit (K : PySem.W.Frag) (C : Addr) : Sp := fun vs H Q _ => ∃ (p dx a b : Addr) (ts : List Addr) (q : PQ), vs = [.ref p, .ref a, .ref b] ∧ H p = some (.ins C dx []) ∧ SqT K H a (ts.map V.ref) ∧ Cls H ts q.cls ∧ H b = some (.tup (q.asked.map V.str)) ∧ WfQ q ∧ (colsIn q.cls).length < 64 ∧
  ∀ H' tc ta to td ns, tc = a → QuA K C H' p q tc ta to td ts ns → (∀ c o, c ≠ p → H c = some o → H' c = some o) → Q .non H'
section
variable {P : Program} {w : World} {K : PySem.W.Frag} {mg : Str → Option Value} {base : Heap} {C fC fA fT fO : Addr} {fdC fdA fdT fdO : FuncData}
abbrev nInit : List Str := ["self", "clauses", "asked"]
theorem scInit : FnScope nInit ["self", "clauses", "asked"] (defScope (sQ 0)) := ⟨rfl, rfl, rfl, by decide +kernel, rfl, by decide +kernel, by decide +kernel⟩
theorem ok_init {f : Addr} {fd : FuncData} (F : Fun K "__init__" "Question.__init__" (sQ 0) f fd) (T : TQu K C)
    (eC : Gl K mg "_are_clauses" fC) (GC : FnOk P w K mg base CX0 4 fC fdC ["value"] (spAreCl K)) (bC : Binds K fdC ["value"] [])
    (eA : Gl K mg "_are_asked" fA) (GA : FnOk P w K mg base CX0 3 fA fdA ["clauses", "value"] (spAreAsk K)) (bA : Binds K fdA ["clauses", "value"] [])
    (eT : Gl K mg "_tables_of" fT) (GT : FnOk P w K mg base CX0 1 fT fdT ["clauses"] (spTabsOf K)) (bT : Binds K fdT ["clauses"] [])
    (eO : Gl K mg "_columns_of" fO) (GO : FnOk P w K mg base CX0 1 fO fdO ["clauses"] (spColsOf K)) (bO : Binds K fdO ["clauses"] []) :
    FnOk P w K mg base CX0 5 f fd ["self", "clauses", "asked"] (spInit K C) := by
  refine F.ok scInit (fun vs H Q E h => ?_) (fun cdv A outer s H vs Q E hr h => ?_)
  · obtain ⟨p, dx, a, b, ts, q, rfl, _⟩ := h
    rfl
  · obtain ⟨p, dx, a, b, ts, q, rfl, hp, ha, hc, hb, g, few, k⟩ := h
    have hr1 : Room 1 _ := hr.mono (by decide)
    refine ⟨_, pss_cons (ps_if (pw_or (pt_not (pt_val (pe_call GC hr (by rfl) eC.g eC.k bC .nil pass0 (pa_cons (pv 1) pa_nil))))
        (pw_or1 (pt_not (pt_val (pe_call GA (hr.mono (by decide)) (by rfl) eA.g eA.k bA .nil pass0 (pa_cons (pv 1) (pa_cons (pv 2) pa_nil))))))).pt (pss_one ps_never) pss_nil)
      (pss_cons (ps_fld (pv 0) (pv 1) rfl)
      (pss_cons (ps_fld (pv 0) (pv 2) rfl)
      (pss_cons (ps_fld (pv 0) (pe_call GO hr1 (by rfl) eO.g eO.k bO .nil pass0 (pa_cons (pv 1) pa_nil)) rfl)
      (pss_one (ps_fld (pv 0) (pe_call GT hr1 (by rfl) eT.g eT.k bT .nil pass0 (pa_cons (pv 1) pa_nil)) rfl))))), ?_⟩
    have n1 : ts.length = q.cls.length := hc.len
    have c8 := g.c.few
    have a8 := g.few
    refine ⟨_, rfl, a, ts, q.cls, rfl, ha, hc, g.c, few, fun H1 s1 => ⟨_, rfl, if_neg_of rfl ?_⟩⟩
    refine ⟨_, rfl, _, rfl, a, b, ts, q.cls, q.asked, rfl, seqT s1 ha, hc.same s1, few, by omega, s1 _ _ hb, g.nd, by omega, g.nam, g.ask, fun H2 s2 => ⟨_, rfl, if_neg_of rfl ?_⟩⟩
    have s02 := K0.Same.tr s1 s2
    have hp2 := s02 _ _ hp
    have notup : ∀ xs, H p ≠ some (.tup xs) := fun xs e => by rw [hp] at e; cases e
    have nofrz : ∀ o u, H p ≠ some (.frz o u) := fun o u e => by rw [hp] at e; cases e
    have kT : ∀ {H' : Hp}, Kd p H H' → SqT K H' a (ts.map V.ref) := fun kd => sqT_kd notup nofrz kd ha
    have pb : b ≠ p := fun e => notup _ (by rw [← e]; exact hb)
    refine ⟨_, rfl, _, rfl, p, C, dx, _, rfl, hp2, T.cl, T.n1, by show 0 < 1000; decide, ?_⟩
    refine ⟨_, rfl, _, rfl, p, C, dx, _, rfl, upd_same, T.cl, T.n2, Nat.lt_of_le_of_lt (qF1_le a) (by decide), ?_⟩
    have kd3 : Kd p H (upd (upd H2 p (.ins C dx (qF1 a))) p (.ins C dx (qF2 a b))) := fun c o n e => by
      rw [upd_ne n, upd_ne n]
      exact s02 _ _ e
    refine ⟨_, rfl, a, ts, q.cls, rfl, kT kd3, hc.kdI notup kd3, few, by omega, fun ns t H4 ic s4 ht et => ?_⟩
    have kd4 : Kd p H H4 := kd3.tr (Kd.of s4)
    refine ⟨_, rfl, p, C, dx, _, rfl, s4 _ _ upd_same, T.cl, T.n3, Nat.lt_of_le_of_lt (qF2_le a b) (by decide), ?_⟩
    have pt : t ≠ p := fun e => by
      rw [e, upd_same] at ht
      cases ht
    have kd5 : Kd p H (upd H4 p (.ins C dx (qF3 a b t))) := fun c o n e => by
      rw [upd_ne n]
      exact kd4 _ _ n e
    have et5 : upd H4 p (.ins C dx (qF3 a b t)) t = some (.tup (ns.map V.str)) := by rw [upd_ne pt]; exact et
    refine ⟨_, rfl, a, ts, q.cls, rfl, kT kd5, hc.kdI notup kd5, by omega, fun d H6 s6 hd ed => ?_⟩
    have kd6 : Kd p H H6 := kd5.tr (Kd.of s6)
    refine ⟨_, rfl, p, C, dx, _, rfl, s6 _ _ upd_same, T.cl, T.n4, Nat.lt_of_le_of_lt (qF3_le a b t) (by decide), ?_⟩
    have pd : d ≠ p := fun e => by
      rw [e, upd_same] at hd
      cases hd
    have kd7 : Kd p H (upd H6 p (.ins C dx (qFs a b t d))) := fun c o n e => by
      rw [upd_ne n]
      exact kd6 _ _ n e
    refine k _ a b t d ns rfl ⟨⟨dx, upd_same⟩, kT kd7, hc.kdI notup kd7, kd7 _ _ pb hb, ?_, ic, ?_⟩ fun c o n e => kd7 _ _ n e
    · show upd H6 p (.ins C dx (qFs a b t d)) t = _
      rw [upd_ne pt]
      exact s6 _ _ et5
    · show upd H6 p (.ins C dx (qFs a b t d)) d = _
      rw [upd_ne pd]
      exact ed
end
end K0

/-! ## P4 -/
set_option maxRecDepth 100000
set_option maxHeartbeats 2000000
namespace K0
open PySem PySem.Spec PyProof.Rows L2
/-! ### x in t, t.index(x): items of any depth -/
section
variable {X : Cx}
def rInDT (K : PySem.W.Frag) (neg : Bool) : R2 := fun x y H Q => ∃ d ds, Dp K H x d ∧ Dp K H y (.tuple ds) ∧ SeqAt.shaped d = true ∧ SeqAt.shaped (.tuple ds) = true ∧ Q (.bl (if neg then !(ds.any fun z => PyData.eqv z d) else ds.any fun z => PyData.eqv z d)) H
theorem op_inDT (hu : X.A.units + 65 < cLine) : OpR X (compareOp .In) (rInDT X.K false) := by
  intro pins s σ H x y v u Q I rx ry h
  obtain ⟨d, ds, hd, he, sd, se, q⟩ := h
  obtain ⟨as, r1⟩ := Dp.reads I d x v hd rx
  obtain ⟨bs, r2⟩ := Dp.reads I (.tuple ds) y u he ry
  exact SeqAt.in_tuple_reads r2 r1 (SeqAt.canLay_of_shaped se) (SeqAt.canLay_of_shaped sd) (room_in_shaped sd hu) ⟨.bl _, H, I, rfl, q⟩
theorem op_notInDT (hu : X.A.units + 65 < cLine) : OpR X (compareOp .NotIn) (rInDT X.K true) := by
  intro pins s σ H x y v u Q I rx ry h
  obtain ⟨d, ds, hd, he, sd, se, q⟩ := h
  obtain ⟨as, r1⟩ := Dp.reads I d x v hd rx
  obtain ⟨bs, r2⟩ := Dp.reads I (.tuple ds) y u he ry
  exact SeqAt.notIn_tuple_reads r2 r1 (SeqAt.canLay_of_shaped se) (SeqAt.canLay_of_shaped sd) (room_in_shaped sd hu) ⟨.bl _, H, I, rfl, q⟩
def rIndexDT (K : PySem.W.Frag) : V → List V → Hp → VK → Prop := fun x xs H Q => ∃ (a : Addr) (y : V) (d : PyData) (ds : List PyData) (j : Nat) (z : PyData), x = V.ref a ∧ xs = [y] ∧ Dp K H (V.ref a) (.tuple ds) ∧ Dp K H y d ∧
  SeqAt.shaped (.tuple ds) = true ∧ SeqAt.shaped d = true ∧ ds[j]? = some z ∧ PyData.eqv z d = true ∧ (∀ (m : Nat) (z' : PyData), m < j → ds[m]? = some z' → PyData.eqv z' d = false) ∧ Q (.int (j : Nat)) H
theorem mt_tindexD (hu : X.A.units + 65 < cLine) : MtR X "tuple.index" (rIndexDT X.K) := by
  intro pins s σ H x xs v us Q I rx rxs h
  obtain ⟨a, y, d, ds, j, z, rfl, rfl, hl, hy, sl, sd, hz, hzj, hno, q⟩ := h
  cases rx
  cases rxs with
  | cons ry rt =>
    rename_i uy ut
    cases rt
    obtain ⟨bs, r1⟩ := Dp.reads I d y uy hy ry
    have hxs : PyData.canLayAll0 ds = true := SeqAt.canLay_of_shaped sl
    have hroom : X.A.units + 1 + min (PyData.depthAll ds) d.depth < cLine := room_in_shaped sd hu
    cases hl with
    | tup hs ha =>
      obtain ⟨its, rv, ⟨⟨cls, dd, data, sls⟩, ho, hc, n, hdn⟩, hlen⟩ := I.tuple hs
      simp only at hc hdn
      subst hc hdn
      obtain ⟨as, h4⟩ := Dp.readsAll I ds _ its ha rv
      have hn : its.length = ds.length := SeqAt.ReadsAll.length ds its as h4
      have hmap : its.map (SeqAt.readOf s.heap) = ds := SeqAt.readsAll_map ds its as hxs h4
      have hvl := rv.length
      have hsl := sizeLine_eq
      obtain ⟨hjd, _⟩ := List.getElem?_eq_some_iff.mp hz
      have hjl : j < its.length := by omega
      have hj : j < its.toArray.size := by simpa using hjl
      have at_ : ∀ (m : Nat) (hm : m < its.toArray.size) (z' : PyData), ds[m]? = some z' → SeqAt.readOf s.heap its.toArray[m] = z' := by
        intro m hm z' hz'
        have hml : m < its.length := by simpa using hm
        rw [← hmap, List.getElem?_map, List.getElem?_eq_getElem hml] at hz'
        have e1 : SeqAt.readOf s.heap its[m] = z' := Option.some.inj (show some (SeqAt.readOf s.heap its[m]) = some z' from hz')
        simpa using e1
      refine call_meets PySem.F.slot_tuple_index ⟨_, ho, rfl⟩ PySem.F.entry_tuple_index (PySem.F.args_tuple_index_2 _ _)
        (TI.tuple_indexAt a its.toArray n dd sls uy (fun u => PyData.eqv (SeqAt.readOf s.heap u) d) j hj ?_ ?_) ⟨ho, SeqAt.items_eqAt (vs := its.toArray) (show ReadsAll s.heap its.toArray.toList ds as from h4) r1 hxs (SeqAt.canLay_of_shaped sd) hroom, ?_⟩
      · show PyData.eqv (SeqAt.readOf s.heap its.toArray[j]) d = true
        rw [at_ j hj z hz]
        exact hzj
      · intro m hm hmj
        have hmd : m < ds.length := by omega
        have hz' : ds[m]? = some ds[m] := List.getElem?_eq_getElem hmd
        show PyData.eqv (SeqAt.readOf s.heap its.toArray[m]) d = false
        rw [at_ m hm _ hz']
        exact hno m _ hmj hz'
      · exact ⟨.int (j : Nat), H, I.tok _, ⟨_, rfl⟩, q⟩
end
/-! ### clauses as data -/
def dC (c : CL) : PyData := .tuple [.str c.1, .tuple (c.2.map PyData.str)]
theorem eqvAll_strs : ∀ (l m : List Str), PyData.eqvAll (l.map PyData.str) (m.map PyData.str) = decide (l = m)
  | [], [] => rfl
  | [], _ :: _ => rfl
  | _ :: _, [] => rfl
  | a :: l, b :: m => by
    rw [List.map_cons, List.map_cons, PyData.eqvAll, eqvAll_strs l m]
    show (a == b && _) = _
    by_cases e : a = b
    · subst e
      simp
    · have : (a == b) = false := beq_eq_false_iff_ne.mpr e
      rw [this, Bool.false_and]
      exact (decide_eq_false fun h => e (by injection h)).symm
theorem dC_eqv (c c' : CL) : PyData.eqv (dC c) (dC c') = decide (c = c') := by
  unfold dC
  rw [PyData.eqv, PyData.eqvAll, PyData.eqvAll, PyData.eqvAll, PyData.eqv, PyData.eqv, eqvAll_strs, Bool.and_true]
  by_cases e : c.1 = c'.1
  · rw [e, beq_self_eq_true, Bool.true_and]
    refine decide_eq_decide.mpr ⟨fun h => Prod.ext e h, fun h => by rw [h]⟩
  · have : (c.1 == c'.1) = false := beq_eq_false_iff_ne.mpr e
    rw [this, Bool.false_and]
    exact (decide_eq_false fun h => e (by rw [h])).symm
theorem depth_strs : ∀ l : List Str, PyData.depthAll (l.map PyData.str) = 0
  | [] => rfl
  | a :: l => by
    rw [List.map_cons, PyData.depthAll, depth_strs l]
    rfl
theorem dC_depth (c : CL) : (dC c).depth = 2 := by
  unfold dC
  simp [PyData.depth, PyData.depthAll, depth_strs]
theorem depth_dCs : ∀ cs : List CL, PyData.depthAll (cs.map dC) ≤ 2
  | [] => Nat.zero_le _
  | a :: l => by
    rw [List.map_cons, PyData.depthAll, dC_depth]
    exact Nat.max_le.mpr ⟨Nat.le_refl _, depth_dCs l⟩
theorem dpAll_strs {K : PySem.W.Frag} {H : Hp} : ∀ l : List Str, DpAll K H (l.map V.str) (l.map PyData.str)
  | [] => .nil
  | a :: l => .cons (.str a) (dpAll_strs l)
theorem ClA.dp {K : PySem.W.Frag} {H : Hp} {t : Addr} {c : CL} (h : ClA H t c) : Dp K H (.ref t) (dC c) := by
  obtain ⟨t2, h1, h2⟩ := h
  exact .tup (SqT.of h1) (.cons (.str _) (.cons (.tup (SqT.of h2) (dpAll_strs _)) .nil))
theorem Cls.dp {K : PySem.W.Frag} {H : Hp} : ∀ {ts : List Addr} {cs : List CL}, Cls H ts cs → DpAll K H (ts.map V.ref) (cs.map dC)
  | _, _, .nil => .nil
  | _, _, .cons h r => .cons h.dp r.dp
end K0
namespace K0
open PySem PySem.Spec PyProof.Rows L2
/-! ### tuples of which it is known that they have no dict: tuple(l), t.m(..) -/
section
variable {X : Cx}
/-- tuple(l), l a list -/
def rTupF (K : PySem.W.Frag) : List V → Hp → VK → Prop := fun xs H Q => ∃ p ys, xs = [.ref p] ∧ SqL K H p ys ∧ ∀ l o, H l = none → o.dict = none → Q (.ref l) (upd H l (.frz o (.tup ys)))
theorem call_tupF : CallR X (.type "tuple") (rTupF X.K) := by
  intro pins s σ H xs us Q I r h
  obtain ⟨p, ys, rfl, hq, q⟩ := h
  obtain ⟨u, rfl, rx⟩ := vals1 r
  cases rx
  obtain ⟨its, r', pl, hz⟩ := I.list hq
  have hlen := r'.length
  refine call_tuple_list pl.isList (fun h' kp => ?_) (by simp only [List.size_toArray] <;> omega)
  have I1 : Inv X pins σ H { s with heap := h' } := I.kept (t' := s.toks) kp
  have I2 : Inv X pins σ (upd H h'.objs.size (.frz { cls := .type "tuple", data := .seq its.toArray } (.tup ys))) { s with heap := h'.push { cls := .type "tuple", data := .seq its.toArray } } :=
    I1.laid (t' := s.toks) (fun b o e => Heap.get?_push_of_some _ e) (Nat.le_refl _) (show ObjOk X.prog X.w _ _ _ (.frz _ (.tup ys)) from ⟨Heap.get?_push_size _ rfl, hz, its, r', IsTup.new _ _⟩)
  exact ⟨.ref h'.objs.size, _, I2, rfl, q _ _ (I1.hok.fresh (Nat.le_refl _)) rfl⟩
def TupZ (H : Hp) (a : Addr) : Prop := ∃ o xs, H a = some (.frz o (.tup xs)) ∧ o.dict = none
def tBMZ (r : V → List V → Hp → VK → Prop) (to : TE) (t : L2.TA) : TE := fun σ H Q => to σ H fun x H1 => (∃ a, x = .ref a ∧ TupZ H1 a) ∧ t σ H1 fun xs H2 => r x xs H2 Q
variable {o e : Expr} {es : List Expr} {to : TE} {t : L2.TA} {name : Str} {apos cpos : Pos} {id : String} {r : V → List V → Hp → VK → Prop}
theorem pe_bmZ (pa : PlainAttrs "tuple") (slot : Slot "tuple" name id) (hty : typeOf (.builtin id) = pure (.type "method_descriptor")) (hm : MtR X id r) (ho : PE X o to) (ha : PA X (e :: es) t)
    (hbase : attributeBase o name X.env (eval o X.env) = eval o X.env := by rfl)
    (hfew : ((backTo cpos (starEach (e :: es) X.env)).all (fun x => !x.1) && (backToKw cpos (keywordEach [] X.env)).all (fun x => x.1.isSome)
      && decide ((e :: es).length + ([] : List Keyword).length + (if ([] : List Keyword).isEmpty then 0 else 1) < 30)) = true := by rfl)
    (hline : (apos.endLine == cpos.line) = true := by rfl) (hs : starEach (e :: es) X.env = (false, eval e X.env) :: starEach es X.env := by rfl) (hplain : (backTo cpos (starEach es X.env)).any (·.1) = false := by rfl) :
    PE X (.Call (.Attribute o name apos) (e :: es) [] cpos) (tBMZ r to t) := by
  refine ⟨fun pins s σ H Q I h => ?_⟩
  refine wpAny_Call_method_late hbase hfew hline rfl (thn (ho.run pins s σ H _ I h) fun v s1 ⟨x, H1, I1, r1, ⟨a, ea, ob, xs, hz, hd⟩, q1⟩ => ?_)
  subst ea
  cases r1
  obtain ⟨e0, _, its, _, o2, e2, c2, _⟩ := (show ObjOk X.prog X.w H1 s1.heap a (.frz ob (.tup xs)) from I1.hok a _ hz)
  have h1 : s1.TypeIs (.ref a) "tuple" := ⟨o2, e2, c2⟩
  have h2 : ∀ b, Value.ref a = .ref b → ∃ ob, s1.heap.get? b = some ob ∧ ob.dict = none := fun b q => by
    cases q
    exact ⟨ob, e0, hd⟩
  refine ⟨"tuple", id, pa, slot, hty, h1, h2, ?_⟩
  have hA := ha.run cpos pins s1 σ H1 _ I1 q1
  rw [hs] at hA ⊢
  refine Calls.callWith_builtin (by show (false || (backTo cpos (starEach es X.env)).any (·.1)) = false; rw [hplain] <;> rfl) (Calls.evalArgs_plain ?_)
  exact thn hA fun us s2 ⟨vs, H2, I2, r2, q2⟩ => hm pins s2 σ H2 (.ref a) vs (.ref a) us Q I2 rfl r2 q2
end
end K0

/-! ## P5 -/
set_option maxRecDepth 100000
set_option maxHeartbeats 2000000
namespace K0
open PySem PySem.Spec PyProof.Rows L2 Builtin
/-! ### enumerate(t), t a tuple -/
theorem meets_enumT (l : Addr) (items : Array Value) :
    Meets (Builtin.«enumerate.__new__» ⟨[.type "enumerate", .ref l], []⟩) (fun _ R s => s.heap.IsTuple l items ∧
      R (.ok (.ret (.ref (s.heap.push { cls := .type "tuple_iterator", data := .fields #[.ref l, .int 0 0] }).objs.size)))
        { s with heap := (s.heap.push { cls := .type "tuple_iterator", data := .fields #[.ref l, .int 0 0] }).push { cls := .type "enumerate", data := .fields #[.none, .bool false, .ref s.heap.objs.size, rawInt 0, .none, .none] } }) :=
  .of_wp fun prog w A R s h => by
    obtain ⟨hp, g, d, tk, os⟩ := s; obtain ⟨hl, h⟩ := h
    have hsub := sub_enumerate
    have hL : Heap.IsTuple (Shared.heap ⟨hp, g, d, tk, os⟩) l items := hl
    wp_walk
    refine wpAny_stack_any fun st => wpAny_pure ?_
    split
    · rename_i c _ _ _ _ _
      cases (c == Value.type "enumerate")
      · wp_walk using wpAny_pyIter_tuple hL
        exact ⟨_, rfl, h⟩
      · wp_walk using wpAny_pyIter_tuple hL
        exact ⟨_, rfl, h⟩
    · wp_walk using wpAny_pyIter_tuple hL
      exact ⟨_, rfl, h⟩
section
variable {prog : Program} {w : World} {A : Around} {E : Value → Shared → Prop} {s : Shared}
theorem call_enumT {l : Addr} {items : Array Value} {Q : Value → Shared → Prop} (hL : s.heap.IsTuple l items)
    (h : ∀ h', IsEnum h' (s.heap.objs.size + 1) s.heap.objs.size 0 .none → h'.IsTupleIter s.heap.objs.size l 0 → h'.objs.size = s.heap.objs.size + 2 →
      (∀ b o, s.heap.get? b = some o → h'.get? b = some o) → Q (.ref (s.heap.objs.size + 1)) { s with heap := h' }) :
    wpAny (model prog w) A (call (.type "enumerate") [.ref l]) Q E s := by
  refine callType_new F.called_enumerate (by decide) (F.typeCall_enumerate_1 _) (F.newCall_enumerate_1 _) (fun obj => F.args_object_init_2 obj _) F.entry_enumerate_new
    (meets_enumT l items) ⟨hL, ?_⟩
  have hz : (s.heap.push { cls := .type "tuple_iterator", data := .fields #[.ref l, .int 0 0] }).objs.size = s.heap.objs.size + 1 := Heap.size_push ..
  show _ ∧ _
  rw [hz]
  have he : IsEnum ((s.heap.push { cls := .type "tuple_iterator", data := .fields #[.ref l, .int 0 0] }).push
      { cls := .type "enumerate", data := .fields #[.none, .bool false, .ref s.heap.objs.size, rawInt 0, .none, .none] }) (s.heap.objs.size + 1) s.heap.objs.size 0 .none := by
    have := Heap.get?_push_size (s.heap.push { cls := .type "tuple_iterator", data := .fields #[.ref l, .int 0 0] })
      (o := { cls := .type "enumerate", data := .fields #[.none, .bool false, .ref s.heap.objs.size, rawInt 0, .none, .none] }) rfl
    rw [hz] at this; exact this
  refine ⟨⟨_, he, rfl⟩, h _ he ⟨_, Heap.get?_push_of_some _ (Heap.get?_push_size _ rfl), rfl, rfl⟩ (by rw [Heap.size_push, hz]) fun b o x => Heap.get?_push_of_some _ (Heap.get?_push_of_some _ x)⟩
end
/-- the tuple at a, each item in a new pair with its place -/
def IteT (K : PySem.W.Frag) (a : Addr) : It :=
  ⟨fun i H => ∃ (xs : List V) (x : V), SqT K H a xs ∧ xs[i]? = some x, fun i H v H' => ∃ T x, v = .ref T ∧ H T = none ∧ H' = upd H T (.tup [.int (i : Nat), x]) ∧ ∀ xs, SqT K H a xs → xs[i]? = some x, fun i H => ∃ xs : List V, SqT K H a xs ∧ xs.length ≤ i⟩
theorem turn_enumT {P : Program} {w : World} {K : PySem.W.Frag} {elts : List Expr} {kk : Nat} {tpos : Pos} (a e it : Addr) :
    Turn P w K (.Tuple elts kk tpos) (IteT K a) [e, it] e (fun i h => (∃ old, IsEnum h e it ((i : Nat) : Int) old) ∧ h.IsTupleIter it a i ∧ e ≠ it) where
  mem := by simp
  obj := fun i h st b hb => by
    obtain ⟨⟨old, he⟩, ⟨o, ho, hc, hd⟩, _⟩ := st
    have e' : b = e ∨ b = it := by simpa using hb
    rcases e' with z | z
    · rw [z]; exact ⟨_, he, fun v q => nomatch q⟩
    · rw [z]; exact ⟨o, ho, fun v q => by rw [hd] at q; cases q⟩
  keep := fun i h h' st k => let ⟨⟨old, he⟩, hi, hne⟩ := st; ⟨⟨old, k e (by simp) _ he⟩, hi.at fun o q => k it (by simp) o q, hne⟩
  item := by
    intro X hP hw hK hc i pins s σ H E I hf st hg
    subst hP hw hK
    obtain ⟨⟨old, he⟩, hit, hne⟩ := st
    obtain ⟨xs, x, hq, hx⟩ := hg
    obtain ⟨its, rv, p, hz⟩ := I.tuple hq
    obtain ⟨u, hu, ru⟩ := rv.get hx
    have hel : e < s.heap.objs.size := Heap.lt_size he
    have hil : it < s.heap.objs.size := by obtain ⟨_, q, _⟩ := hit; exact Heap.lt_size q
    have hp : s.heap.IsTuple a its.toArray := p
    have nai : a ≠ it := fun z => by
      obtain ⟨o, e1, c1, _⟩ := hp
      obtain ⟨o2, e2, c2, _⟩ := hit
      rw [z, e2] at e1
      cases e1
      rw [c2] at c1
      injection c1 with c1
      exact absurd c1 (by decide)
    have nae : e ≠ a := fun z => by
      obtain ⟨o, e1, c1, _⟩ := hp
      have he' : s.heap.get? e = some _ := he
      rw [z, e1] at he'
      cases he'
      injection c1 with c1
      exact absurd c1 (by decide)
    have hlt : i < its.toArray.size := by
      have := (List.getElem?_eq_some_iff.mp hu).1
      simpa using this
    refine wpAny_pyNext_enum_itemD (Draws.tuple (A := X.A.in1) (I.ok.hd hc) it a nai its.toArray) he ⟨hit, hp⟩ hlt hne (by simp [hne, nae]) fun x' h' tk hP ho st' hT hsz hk => ?_
    have ex : x' = u := by
      have z : its.toArray[i]? = some x' := hP
      have z2 : its.toArray[i]? = some u := by simpa using hu
      rw [z2] at z
      exact (Option.some.inj z).symm
    subst ex
    refine ⟨_, rfl, wpAny_letOwnedTupleGo_enum (s := { s with heap := h', toks := tk + 1 }) ho fun h'' he' sb => ?_⟩
    have hT2 : h''.get? s.heap.objs.size = some { cls := .type "tuple", data := .seq #[.int i tk, x'] } := (sb.2 _ (Nat.ne_of_gt hel)).trans hT
    have new : ObjOk X.prog X.w (upd H s.heap.objs.size (.tup [.int (i : Nat), x])) h'' s.heap.objs.size (.tup [.int (i : Nat), x]) :=
      ⟨by show 2 ≤ sizeLine; decide, [.int i tk, x'], .cons ⟨_, rfl⟩ (.cons ru .nil), ⟨_, hT2, rfl, _, rfl⟩⟩
    have I1 : Inv X pins σ (upd H s.heap.objs.size (.tup [.int (i : Nat), x])) { s with heap := h'', toks := tk + 1 } :=
      I.turnedNew (ch := [e, it]) (fun b ob hb q => (sb.2 b (fun z => hb (by simp [z]))).trans (hk b ob (fun z => hb (by simp [z])) (fun z => hb (by simp [z])) q)) hf (Nat.le_refl _) new
    refine ⟨.ref s.heap.objs.size, _, I1, rfl, ⟨_, x, rfl, I.hok.fresh (Nat.le_refl _), rfl, fun ys hy => by rw [I.tuple_inj hy hq]; exact hx⟩, ⟨⟨x', ?_⟩, st'.1.at fun o q => (sb.2 it (Ne.symm hne)).trans q, hne⟩, fun b hb => ?_⟩
    · have e1 : ((i + 1 : Nat) : Int) = (i : Int) + 1 := by omega
      rw [e1]; exact he'
    · have hb' : b < s.heap.objs.size := by
        have e' : b = e ∨ b = it := by simpa using hb
        rcases e' with z | z
        · rw [z]; exact hel
        · rw [z]; exact hil
      rw [upd_ne (Nat.ne_of_lt hb')]
      exact (hf b hb).1
  done := by
    intro X hP hw hK hc i pins s σ H E I hf st hg
    subst hP hw hK
    obtain ⟨⟨old, he⟩, hit, hne⟩ := st
    obtain ⟨xs, hq, hx⟩ := hg
    obtain ⟨its, rv, p, hz⟩ := I.tuple hq
    obtain ⟨f0, f1, f2, f3, f4, f5⟩ := hf it (by simp)
    have hl := rv.length
    have hp : s.heap.IsTuple a its.toArray := p
    have hT : s.TypeIs (.ref e) "enumerate" := ⟨_, he, rfl⟩
    unfold pyNext
    refine wpAny_bind (wpAny_attempt (wpAny_callSpecial?_slot (name := Str.ofString "__next__") hT F.slot_enumerate_next
      (wpAny_call_entry F.slot_enumerate_next hT F.entry_enumerate_next ?_ (F.args_enumerate_next_1 _))))
    show wpAny _ _ (field (.ref e) 2 >>= _) _ _ _
    refine wpAny_bind (wpAny_field he rfl (x := .ref it) rfl ?_)
    refine wpAny_bind (wpAny_nextOf_tuple_end (show X.A.in1.in1.handled = none from I.ok.hd hc) hit hp (by simp; omega) fun h' x he' hx' => ?_)
    obtain ⟨o, ho, hc'⟩ := hx'
    refine wpAny_bind (wpAny_isInstance (T := "StopIteration") (b := true) ⟨o, ho, hc'⟩ isSubtype_stop ?_)
    exact wpAny_pure ⟨rfl, I.turned (t' := s.toks) (fun b o hb q => he' b o hb q) f0 f1 f3 f4 f5⟩
  self := fun A i s Q E st h => let ⟨⟨_, he⟩, _⟩ := st; wpAny_pyIter_enum he h
def iEnumT (K : PySem.W.Frag) (ta : L2.TA) : TI := fun σ H R => ta σ H fun vs H1 => ∃ a xs, vs = [.ref a] ∧ SqT K H1 a xs ∧ R (IteT K a) H1
theorem pi_enumT {X : Cx} {e : Expr} {ta : L2.TA} {p pos tpos : Pos} {elts : List Expr} {kk : Nat} (hg : L2.Gl X "enumerate") (hm : X.mg "enumerate" = none) (ha : PA X [e] ta) (hs : starEach [e] X.env = [(false, eval e X.env)] := by rfl) :
    PI X (.Tuple elts kk tpos) (.Call (.Name "enumerate" p) [e] [] pos) (iEnumT X.K ta) := by
  refine ⟨fun pins s σ H R I h => ?_⟩
  refine Call_ (ld_blt I hg hm boot_enumerate (PyProof.Rows.callWith_type1 (thn (ha.run pos pins s σ H _ I h) fun us s1 ⟨vs, H1, I1, r1, q1⟩ => ?_) hs rfl))
  obtain ⟨a, xs, ex, hq, q⟩ := q1
  subst ex
  cases r1 with
  | cons r rr =>
    cases rr
    cases r
    obtain ⟨its, rv, p', hz⟩ := I1.tuple hq
    refine call_enumT (show s1.heap.IsTuple a its.toArray from p') fun h' he hit hsz hk => wpAny_pyIter_enum he ?_
    have I2 : Inv X pins σ H1 { s1 with heap := h' } := I1.kept (t' := s1.toks) hk
    refine ⟨s1.heap.objs.size + 1, [s1.heap.objs.size + 1, s1.heap.objs.size], _, _, H1, rfl, I2, turn_enumT a (s1.heap.objs.size + 1) s1.heap.objs.size, ⟨⟨.none, he⟩, hit, Nat.succ_ne_self _⟩, fun b hb => ?_, q⟩
    have e' : b = s1.heap.objs.size + 1 ∨ b = s1.heap.objs.size := by simpa using hb
    have hle : s1.heap.objs.size ≤ b := by
      rcases e' with z | z
      · rw [z]; exact Nat.le_add_right _ _
      · rw [z]; exact Nat.le_refl _
    exact I1.fpOk hle (I1.hok.fresh hle)
theorem walk_enumT {K : PySem.W.Frag} {a : Addr} {xs : List V} : Walk (IteT K a) xs.length (fun H => SqT K H a xs) (YPair (fun i => some (.int (i : Nat))) (fun i => xs[i]?)) := by
  refine ⟨fun i _ hi q => ⟨xs, xs[i], q, by simp [hi]⟩, fun _ q => ⟨xs, q, Nat.le_refl _⟩, fun i H v H' _ q y => ?_⟩
  obtain ⟨T, x, h1, h2, h3, h4⟩ := y
  exact ⟨T, .int (i : Nat), x, h1, h2, h3, rfl, h4 xs q⟩
end K0

/-! ## X1 -/
set_option maxRecDepth 100000
set_option maxHeartbeats 2000000
namespace K0
open PySem PySem.Spec PyProof.Rows L2 ClX
/-! ### a class that a local name holds, called -/
def tMakeL (i : Nat) (C : Addr) (sp : Sp) (dvs : List V) (E : XK) (t : L2.TA) : TE := fun σ H Q => σ[i]? = some (some (.ref C)) ∧ tMake C sp dvs E t σ H Q
section
variable {X : Cx} {CX : CXT} {k i : Nat} {f C : Addr} {fd : FuncData} {ps : List Str} {sp : Sp} {dvs : List V} {ds : List Value} {E : XK} {x m : Str} {p pos apos : Pos} {o e : Expr} {es : List Expr} {t : L2.TA} {ta : TE} {mc : Value} {g pp : Addr} {pl : Sem Bool}
theorem pe_makeL (M : Mk X.K C f) (F : FnOk X.prog X.w X.K X.mg X.base CX k f fd ps sp) (hr : Room (k + 1) X.A) (hN : X.N[i]? = some x) (hv : Vis X.env.scope x) (hb : Binds X.K fd ps ds) (hd : Vals dvs ds) (hx : Passes CX X E) (ha : PA X (e :: es) t)
    (hdb : (x == ("__debug__" : Str)) = false := by decide) (hcd : (x == ("__classdict__" : Str)) = false := by decide)
    (he : starEach (e :: es) X.env = (false, eval e X.env) :: starEach es X.env := by rfl) (hpl : (backTo pos (starEach es X.env)).any (·.1) = false := by rfl) : PE X (.Call (.Name x p) (e :: es) [] pos) (tMakeL i C sp dvs E t) := by
  refine ⟨fun pins s σ H Q I h => ?_⟩
  obtain ⟨hs, ht⟩ := h
  refine wpAny_Call_Name_kw (thn ((pe_var (pos := p) hN hv hdb hcd).run pins s σ H (fun v H1 => v = .ref C ∧ H1 = H) I ⟨.ref C, hs, rfl, rfl⟩) fun u s1 ⟨v, H1, I1, r1, q1⟩ => ?_)
  obtain ⟨rfl, rfl⟩ := q1
  cases r1
  refine PySem.W.callWith_K (h₀ := X.base) I.ok.mod.kin M.kp (thn (ha.run pos pins s1 σ _ _ I1 ht) fun us s2 ⟨vs, H2, I2, r, q⟩ => ⟨I2.kIn, ?_⟩) he hpl
  exact run_make M F hr hb hd hx I2 r q
/-! ### C.m(), m a classmethod -/
theorem pe_cmeth0 (he : PE X o ta) (r : CRead X.K C mc) (c : CMet X.K C mc m pp g) (F : FnR X.prog X.w X.K X.mg X.base CX k g sp) (hr : Room k X.A) (hx : Passes CX X E)
    (ht : eval (.Call (.Attribute o m apos) [] [] pos) X.env = (do
      let ov ← eval o X.env
      standAt apos.atName
      let (f, first) ← holding [ov] (getMethod ov m pl)
      callWith pos f first (backTo pos (starEach [] X.env)) (backToKw pos (keywordEach [] X.env))) := by rfl) :
    PE X (.Call (.Attribute o m apos) [] [] pos) (tCMeth C sp E ta tNil) := by
  refine ⟨fun pins s σ H Q I h => ?_⟩
  refine PySem.W.methodCall_KW (pl := pl) (thn (he.run pins s σ H _ I h) fun u s1 ⟨x, H1, I1, rx, ex, q⟩ => ?_) ht
  subst ex
  obtain rfl : u = Value.ref C := rx
  refine getmethcm_ok I1 r c fun s2 I2 => ?_
  refine PySem.W.callWith_M0 (first := []) ⟨pin_at I2, I2.kIn⟩ c.fi ?_
  exact run_cm F hr hx I2 .nil q
end
/-! ### words -/
def spW : Str := " "
def wds : Option Str → List Str
  | some z => Txt.split z spW
  | none => [""]
def lnO : V → Option Str
  | .str z => some z
  | _ => none
theorem wds_ne (o : Option Str) : wds o ≠ [] := by
  cases o with
  | none => exact fun h => by cases h
  | some z =>
    intro h
    have := split_pos z spW
    have e : (Txt.split z spW).length = 0 := by
      show (wds (some z)).length = 0
      rw [h]; rfl
    omega
/-- short, if a text -/
def ShT (v : V) : Prop := ∀ z, v = .str z → z.length ≤ 900 ∧ okS z
theorem wds_len {v : V} (h : ShT v) : (wds (lnO v)).length ≤ 902 := by
  cases v with
  | str z =>
    have h1 := (h z rfl).1
    have h2 := split_le z spW
    show (Txt.split z spW).length ≤ 902
    omega
  | _ => show ([""] : List Str).length ≤ 902; decide
theorem isStr_at {v : V} (h : isStrV v = true) : ∃ z, v = .str z := by
  cases v with
  | str z => exact ⟨z, rfl⟩
  | _ => cases h
theorem isStr_no {v : V} (h : isStrV v = false) : lnO v = none := by
  cases v with
  | str z => cases h
  | _ => rfl
abbrev sWords : Stmt := top 17
def spWords : Sp := fun vs H Q _ => ∃ v, vs = [v] ∧ Da H v ∧ ShT v ∧ ∀ H' t, Same H H' → H t = none → H' t = some (.tup ((wds (lnO v)).map V.str)) → Q (.ref t) H'
structure TW (mg : Str → Option Value) : Prop where
  isi : mg "isinstance" = none
  str : mg "str" = none
  tup : mg "tuple" = none
section
variable {P : Program} {w : World} {K : PySem.W.Frag} {mg : Str → Option Value} {base : Heap}
theorem scWords : FnScope ["line"] ["line"] (defScope sWords) := ⟨rfl, rfl, rfl, by decide +kernel, rfl, by decide +kernel, by decide +kernel⟩
theorem ok_words {f : Addr} {fd : FuncData} (F : Fun K "words_of" "words_of" sWords f fd) (T : TW mg) : FnOk P w K mg base CX0 1 f fd ["line"] spWords := by
  refine F.ok scWords (fun vs H Q E h => ?_) (fun cdv A outer s H vs Q E hr h => ?_)
  · obtain ⟨v, rfl, _⟩ := h
    rfl
  · obtain ⟨v, rfl, d, sh, k⟩ := h
    refine ⟨_, pss_one (ps_ret (pe_ifExp (pt_val (pe_callB call_isi (by rfl) T.isi (by decide +kernel) (pa_cons (pv 0) (pa_cons (pe_bltn (v := .ty "str") (by rfl) T.str (by decide +kernel) rfl) pa_nil))))
      (pe_callTy (T := "tuple") call_tuple_of (by rfl) T.tup (by decide +kernel) (pa_cons (pe_m1 PySem.F.slot_str_split PySem.F.type_str_split mt_split (pv 0) pe_str) pa_nil)) (pe_tup (pa_cons pe_str pa_nil)))), ?_⟩
    obtain ⟨ty, hty, kt⟩ := d.kStr
    refine ⟨_, rfl, _, _, ty, _, isStrV v, rfl, .ty _, hty, kt, isStrV v, rfl, if_both (fun c => ?_) (fun c => ?_)⟩
    · obtain ⟨z, rfl⟩ := isStr_at c
      have hz := (sh z rfl).1
      refine ⟨_, rfl, ⟨z, rfl⟩, z, spW, rfl, rfl, by decide +kernel, by rw [sizeLine_eq]; omega, fun l hl => ?_⟩
      refine ⟨l, _, rfl, .inl ⟨SqL.of upd_same, fun t ht => ?_⟩⟩
      have s1 := K0.Same.new (.lst ((Txt.split z spW).map V.str)) hl
      have s2 := K0.Same.new (.tup ((Txt.split z spW).map V.str)) ht
      exact k _ t (K0.Same.tr s1 s2) (none_back s1 ht) upd_same
    · refine ⟨by show 1 ≤ sizeLine; decide, fun p hp => ?_⟩
      have e : (wds (lnO v)).map V.str = [V.str ""] := by rw [isStr_no c]; rfl
      refine k _ p (K0.Same.new _ hp) hp ?_
      rw [e]
      exact upd_same
end
end K0

/-! ## X2 -/
set_option maxRecDepth 100000
set_option maxHeartbeats 2000000
namespace K0
open PySem PySem.Spec PyProof.Rows L2
/-! ### what words tell -/
inductive LT
  | cl (c : CL)
  | as (l : List Str)
def toldW : List Str → Option LT
  | [] => none
  | w :: r => if w = ("clause" : Str) then (match r with | [] => none | t :: cs => if (nameS t && (cs.all nameS && widB cs.length)) = true then some (.cl (t, cs)) else none)
    else if w = ("asked" : Str) ∧ (r.all nameS && decide r.Nodup) = true then some (.as r) else none
def readW : List Str → Option LT
  | [] => none
  | w :: r => if (w :: r).all nameS = true then (if w = ("asked" : Str) ∧ decide r.Nodup = true then some (.as r) else if w = ("clause" : Str) ∧ 3 ≤ r.length + 1 ∧ r.length + 1 ≤ 10 then
      (match r with | [] => none | t :: cs => some (.cl (t, cs))) else none) else none
theorem nm_clause : nameS "clause" = true := by decide +kernel
theorem nm_asked : nameS "asked" = true := by decide +kernel
theorem ne_ca : ¬ ("clause" : Str) = "asked" := by decide +kernel
theorem readW_eq : ∀ ws, readW ws = toldW ws
  | [] => rfl
  | w :: r => by
    unfold readW toldW
    dsimp only
    by_cases h1 : w = ("clause" : Str)
    · subst h1
      rw [if_pos rfl, List.all_cons, nm_clause, Bool.true_and]
      have e : (if ("clause" : Str) = "asked" ∧ decide r.Nodup = true then some (LT.as r) else if ("clause" : Str) = "clause" ∧ 3 ≤ r.length + 1 ∧ r.length + 1 ≤ 10 then (match r with | [] => none | t :: cs => some (.cl (t, cs))) else none)
          = if 3 ≤ r.length + 1 ∧ r.length + 1 ≤ 10 then (match r with | [] => none | t :: cs => some (LT.cl (t, cs))) else none := by
        rw [if_neg (fun z => ne_ca z.1)]
        by_cases h : 3 ≤ r.length + 1 ∧ r.length + 1 ≤ 10
        · rw [if_pos ⟨rfl, h⟩, if_pos h]
        · rw [if_neg (fun z => h z.2), if_neg h]
      rw [e]
      cases r with
      | nil => simp
      | cons t cs =>
        simp only [List.all_cons, List.length_cons]
        have ew : widB cs.length = decide (3 ≤ cs.length + 1 + 1 ∧ cs.length + 1 + 1 ≤ 10) := by
          unfold widB
          rw [← Bool.decide_and]
          exact decide_eq_decide.mpr (by omega)
        rw [ew]
        cases c1 : nameS t <;> cases c2 : cs.all nameS <;> simp
    · rw [if_neg h1]
      by_cases h2 : w = ("asked" : Str)
      · subst h2
        rw [List.all_cons, nm_asked, Bool.true_and]
        by_cases c1 : r.all nameS = true <;> by_cases c2 : r.Nodup <;> simp [c1, c2, h1]
      · simp [h1, h2]
/-! ### from words to clauses and asked columns -/
abbrev FS := List CL × Option (List Str)
def stepF (s : FS) : Option LT → Option FS
  | none => none
  | some (.cl c) => if c ∈ s.1 then none else some (s.1 ++ [c], s.2)
  | some (.as l) => if s.2.isSome = true then none else some (s.1, some l)
def runF : Nat → FS → List (Option LT) → Nat ⊕ FS
  | _, s, [] => .inr s
  | n, s, t :: r => match stepF s t with
    | none => .inl n
    | some s' => runF (n + 1) s' r
theorem runF_some {n : Nat} {s s' : FS} {t : Option LT} {r : List (Option LT)} (h : stepF s t = some s') : runF n s (t :: r) = runF (n + 1) s' r := by
  show (match stepF s t with | none => (Sum.inl n : Nat ⊕ FS) | some s' => runF (n + 1) s' r) = _
  rw [h]
theorem runF_none {n : Nat} {s : FS} {t : Option LT} {r : List (Option LT)} (h : stepF s t = none) : runF n s (t :: r) = .inl n := by
  show (match stepF s t with | none => (Sum.inl n : Nat ⊕ FS) | some s' => runF (n + 1) s' r) = _
  rw [h]
/-- what some values tell -/
inductive Res
  | ix (n : Nat)
  | qu
  | pl (q : PQ)
inductive ResR : List (Option LT) → Res → Prop
  | ix {l : List (Option LT)} {n : Nat} (h : runF 0 ([], none) l = .inl n) : ResR l (.ix n)
  | qu {l : List (Option LT)} {s : FS} {cs : List CL} (h : runF 0 ([], none) l = .inr s) (up : cs.Pairwise fun c c' => ltC c c' = true) (mem : ∀ c, c ∈ cs ↔ c ∈ s.1) (no : ¬ WfQ ⟨cs, s.2.getD []⟩) : ResR l .qu
  | pl {l : List (Option LT)} {s : FS} {cs : List CL} (h : runF 0 ([], none) l = .inr s) (up : cs.Pairwise fun c c' => ltC c c' = true) (mem : ∀ c, c ∈ cs ↔ c ∈ s.1) (ok : WfQ ⟨cs, s.2.getD []⟩) : ResR l (.pl ⟨cs, s.2.getD []⟩)
theorem ResR.eq {l : List (Option LT)} {a b : Res} (h : ResR l a) (h' : ResR l b) : a = b := by
  cases h with
  | ix h =>
    cases h' with
    | ix h' => rw [h] at h'; cases h'; rfl
    | qu h' => rw [h] at h'; cases h'
    | pl h' => rw [h] at h'; cases h'
  | qu h up mem no =>
    cases h' with
    | ix h' => rw [h] at h'; cases h'
    | qu h' => rfl
    | pl h' up' mem' ok' =>
      rw [h] at h'
      cases h'
      have e := sorted_one up up' fun c => (mem c).trans (mem' c).symm
      rw [e] at no
      exact absurd ok' no
  | pl h up mem ok =>
    cases h' with
    | ix h' => rw [h] at h'; cases h'
    | qu h' up' mem' no' =>
      rw [h] at h'
      cases h'
      have e := sorted_one up up' fun c => (mem c).trans (mem' c).symm
      rw [← e] at no'
      exact absurd ok no'
    | pl h' up' mem' ok' =>
      rw [h] at h'
      cases h'
      have e := sorted_one up up' fun c => (mem c).trans (mem' c).symm
      rw [e]
/-! ### what is known of words' clauses -/
structure PreF (s : FS) : Prop where
  tab : ∀ c ∈ s.1, nameS c.1 = true
  nam : ∀ c ∈ s.1, ∀ k ∈ c.2, nameS k = true
  wide : ∀ c ∈ s.1, 1 ≤ c.2.length ∧ c.2.length ≤ 8
  dif : s.1.Nodup
  as_ : ∀ l, s.2 = some l → l.Nodup ∧ (∀ k ∈ l, nameS k = true) ∧ l.length ≤ 1000
theorem PreF.nil : PreF ([], none) := ⟨fun _ h => (by cases h), fun _ h => (by cases h), fun _ h => (by cases h), List.nodup_nil, fun _ h => (by cases h)⟩
theorem toldW_cl {ws : List Str} {c : CL} (h : toldW ws = some (.cl c)) : nameS c.1 = true ∧ (∀ k ∈ c.2, nameS k = true) ∧ 1 ≤ c.2.length ∧ c.2.length ≤ 8 := by
  cases ws with
  | nil => cases h
  | cons w r =>
    unfold toldW at h
    dsimp only at h
    split at h
    · cases r with
      | nil => cases h
      | cons t cs =>
        dsimp only at h
        split at h
        · rename_i z
          cases h
          rw [Bool.and_eq_true, Bool.and_eq_true] at z
          obtain ⟨z1, z2, z3⟩ := z
          unfold widB at z3
          rw [Bool.and_eq_true, decide_eq_true_eq, decide_eq_true_eq] at z3
          exact ⟨z1, List.all_eq_true.mp z2, z3.1, z3.2⟩
        · cases h
    · split at h <;> cases h
theorem toldW_as {ws l : List Str} (h : toldW ws = some (.as l)) : l.Nodup ∧ (∀ k ∈ l, nameS k = true) ∧ l.length < ws.length := by
  cases ws with
  | nil => cases h
  | cons w r =>
    unfold toldW at h
    dsimp only at h
    split at h
    · cases r with
      | nil => cases h
      | cons t cs =>
        dsimp only at h
        split at h <;> cases h
    · split at h
      · rename_i z
        cases h
        rw [Bool.and_eq_true, decide_eq_true_eq] at z
        exact ⟨z.2.2, List.all_eq_true.mp z.2.1, Nat.lt_succ_self _⟩
      · cases h
theorem PreF.step {s s' : FS} {ws : List Str} (p : PreF s) (hw : ws.length ≤ 1000) (h : stepF s (toldW ws) = some s') : PreF s' := by
  cases e : toldW ws with
  | none => rw [e] at h; cases h
  | some t =>
    rw [e] at h
    cases t with
    | cl c =>
      obtain ⟨n1, n2, n3⟩ := toldW_cl e
      unfold stepF at h
      dsimp only at h
      split at h
      · cases h
      · rename_i nin
        cases h
        have each : ∀ {q : CL → Prop}, (∀ x ∈ s.1, q x) → q c → ∀ x ∈ s.1 ++ [c], q x := fun h1 h2 x hx => by
          rcases List.mem_append.mp hx with z | z
          · exact h1 x z
          · rw [List.mem_singleton.mp z]; exact h2
        exact ⟨each p.tab n1, each p.nam n2, each p.wide n3, List.nodup_append.mpr ⟨p.dif, List.nodup_cons.mpr ⟨fun z => (by cases z), List.nodup_nil⟩, fun x hx y hy z => by
          rw [List.mem_singleton.mp hy] at z
          exact nin (z ▸ hx)⟩, p.as_⟩
    | as l =>
      obtain ⟨n1, n2, n3⟩ := toldW_as e
      unfold stepF at h
      dsimp only at h
      split at h
      · cases h
      · cases h
        exact ⟨p.tab, p.nam, p.wide, p.dif, fun l' e' => (by cases e'; exact ⟨n1, n2, by omega⟩)⟩
/-- the lines of a question in any order tell it -/
theorem stepF_len {s s' : FS} {t : Option LT} (h : stepF s t = some s') : s'.1.length ≤ s.1.length + 1 := by
  unfold stepF at h
  split at h
  · cases h
  · split at h
    · cases h
    · cases h; simp
  · split at h <;> cases h
    exact Nat.le_succ _
/-! ### words of a line are short -/
theorem spl_short (S : List Nat) : ∀ (l : List Nat) (k : Nat) (acc : List Nat), ∀ p ∈ TL.spl S k acc l, p.length ≤ acc.length + l.length ∧ ∀ c ∈ p, c ∈ acc ∨ c ∈ l
  | [], k, acc, p, hp => by
    rw [TL.spl_nil] at hp
    rw [List.mem_singleton.mp hp]
    exact ⟨Nat.le_refl _, fun c hc => .inl hc⟩
  | c :: r, 0, acc, p, hp => by
    by_cases h : TL.pre S (c :: r) = true
    · rw [TL.spl_hit h] at hp
      rcases List.mem_cons.mp hp with e | e
      · rw [e]
        exact ⟨by simp, fun c hc => .inl hc⟩
      · obtain ⟨h1, h2⟩ := spl_short S r _ [] p e
        exact ⟨by simp at h1 ⊢; omega, fun d hd => (h2 d hd).elim (fun z => by cases z) fun z => .inr (List.mem_cons_of_mem _ z)⟩
    · rw [TL.spl_miss (Bool.eq_false_iff.mpr h)] at hp
      obtain ⟨h1, h2⟩ := spl_short S r 0 (acc ++ [c]) p hp
      refine ⟨by simp at h1 ⊢; omega, fun d hd => ?_⟩
      rcases h2 d hd with z | z
      · rcases List.mem_append.mp z with z | z
        · exact .inl z
        · exact .inr (List.mem_cons.mpr (.inl (List.mem_singleton.mp z)))
      · exact .inr (List.mem_cons_of_mem _ z)
  | c :: r, k + 1, acc, p, hp => by
    have e : TL.spl S (k + 1) acc (c :: r) = TL.spl S k acc r := rfl
    rw [e] at hp
    obtain ⟨h1, h2⟩ := spl_short S r k acc p hp
    exact ⟨by simp; omega, fun d hd => (h2 d hd).imp id fun z => List.mem_cons_of_mem _ z⟩
theorem wds_word {z p : Str} (h : p ∈ Txt.split z spW) : p.length ≤ z.length ∧ ∀ c ∈ p.cps.toList, c ∈ z.cps.toList := by
  have e := TL.split_spl z spW (by decide +kernel) (TL.kind_ok (by decide +kernel))
  have hp : TL.tl p ∈ TL.spl (TL.tl spW) 0 [] (TL.tl z) := by
    rw [← e]
    exact List.mem_map.mpr ⟨p, h, rfl⟩
  obtain ⟨h1, h2⟩ := spl_short _ _ _ _ _ hp
  refine ⟨?_, fun c hc => (h2 c hc).elim (fun q => by cases q) id⟩
  rw [TL.len_tl, TL.len_tl]
  simpa using h1
end K0

/-! ## X3 -/
set_option maxRecDepth 100000
set_option maxHeartbeats 2000000
namespace K0
open PySem L2 NS RZ
/-! ### sorted(set), by what stands in it -/
def rSortTxP (w : World) : List V → Hp → VK → Prop := fun vs H Q => ∃ (a : Addr) (S : Str → Bool) (n : Nat), vs = [.ref a] ∧ H a = some (SetTO w a S n) ∧ (∀ L : List Str, L.Nodup → (∀ k ∈ L, S k = true) → L.length < 64) ∧
  ∀ (ns : List Str) (p : Addr), PyProof.Rows.sortedS ns = true → ns.Nodup → (∀ k, k ∈ ns ↔ S k = true) → H p = none → Q (.ref p) (upd H p (.lst (ns.map V.str)))
theorem cr_sortTxP {X : Cx} (hc : X.calm = true) : CallR X (.builtin "sorted") (rSortTxP X.w) := by
  intro pins s σ H vs us Q I r h
  obtain ⟨a, S, n, rfl, ha, h64, q⟩ := h
  refine cr_sortTx hc pins s σ H _ us Q I r ⟨a, S, n, rfl, ha, ?_, fun ns p h1 h2 h3 _ h5 => q ns p h1 h2 h3 h5⟩
  obtain ⟨o, es, ep, t, ho, hex, hd, g, nd, hm, hb, hf, hsz, _⟩ := setT_get I ha
  have z := h64 (es.toList.map keyT) nd fun k hk => (hm k).mpr hk
  rw [List.length_map, Array.length_toList] at z
  omega
/-! ### _columns_of, of clauses with few columns -/
structure Smol (cs : List CL) : Prop where
  few : cs.length ≤ 16
  wide : ∀ c ∈ cs, c.2.length ≤ 8
  pool : ∃ pool : List Str, pool.length < 64 ∧ ∀ k ∈ colsIn cs, k ∈ pool
theorem Smol.total {cs : List CL} (g : Smol cs) : (colsIn cs).length ≤ 128 := by
  have z := colsIn_few g.wide
  have := g.few
  omega
theorem Smol.nodup {cs : List CL} (g : Smol cs) {L : List Str} (nd : L.Nodup) (h : ∀ k ∈ L, k ∈ colsIn cs) : L.length < 64 := by
  obtain ⟨pool, p1, p2⟩ := g.pool
  exact Nat.lt_of_le_of_lt (nodup_le L pool nd fun k hk => p2 k (h k hk)) p1
def spColsOf2 (K : PySem.W.Frag) : Sp := fun vs H Q _ => ∃ (a : Addr) (ts : List Addr) (cs : List CL), vs = [.ref a] ∧ SqT K H a (ts.map V.ref) ∧ Cls H ts cs ∧ Smol cs ∧ ∀ ns t H', IsCols (colsIn cs) ns → Same H H' → H t = none → H' t = some (.tup (ns.map V.str)) → Q (.ref t) H'
section
variable {P : Program} {w : World} {K : PySem.W.Frag} {mg : Str → Option Value} {base : Heap}
theorem ok_colsOf2 {f : Addr} {fd : FuncData} (F : Fun K "_columns_of" "_columns_of" sColsOf f fd) (T : TQ K mg) : FnOk P w K mg base CX0 1 f fd ["clauses"] (spColsOf2 K) := by
  refine F.ok scColsOf (fun vs H Q E h => ?_) (fun cdv A outer s H vs Q E hr h => ?_)
  · obtain ⟨a, ts, cs, rfl, _⟩ := h
    rfl
  · obtain ⟨a, ts, cs, rfl, ha, hc, g, k⟩ := h
    have tot := g.total
    have few := g.few
    refine ⟨_, pss_one (ps_ret (pe_callTy (T := "tuple") call_tuple_of (by rfl) T.tup (by decide +kernel) (pa_cons (pe_callB (cr_sortTxP rfl) (by rfl) T.srt (by decide +kernel) (pa_cons (pe_callTy (cr_setTx rfl) (by rfl) T.set (by decide +kernel) (pa_cons
      (pe_lc2 (own := [("_", 1), ("columns", 2), ("column", 3)]) (vs1 := [3]) (wi1 := iTup K (tVar 2)) (g := gTup K 2 (gCons (gName 1) (gCons (gName 2) gNil))) (tt := tYes) (g1 := gName 3) (tt1 := tYes) (te := tVar 3) rfl scColsOf.nd (pi_tup (pv 0))
        (blkOk_by (N := nColsOf) (sc := defScope sColsOf) (by decide +kernel)) (by decide)
        (fun _ _ _ _ _ => pg_tup rfl (pgs_cons (pg_name (i := 1) scColsOf.nd rfl (Or.inl rfl)) (pgs_cons (pg_name (i := 2) scColsOf.nd rfl (Or.inl rfl)) pgs_nil))) (fun _ _ _ _ _ => pts_nil)
        (fun _ _ _ _ _ => pi_tup (pv 2)) (fun _ _ _ _ _ => pg_name (i := 3) scColsOf.nd rfl (Or.inl rfl)) (fun _ _ _ _ _ => pts_nil) (fun _ _ _ _ _ => pv 3)) pa_nil)) pa_nil)) pa_nil))), ?_⟩
    refine ⟨_, rfl, a, rfl, ⟨_, ha⟩, fun D hD => walk_it walk_tup (fun i H' => Same H H' ∧ H' D = some (.lst ((colsIn (cs.take i)).map V.str))) ⟨K0.Same.new _ hD, upd_same⟩ (fun i H' _ s => seqT s.1 ha) ?_ ?_⟩
    · rintro i x H1' H1 hi ⟨s1, e1⟩ ⟨rfl, hx⟩
      rw [List.getElem?_map] at hx
      obtain ⟨t, ht, rfl⟩ := Option.map_eq_some_iff.mp hx
      obtain ⟨hti, et⟩ := List.getElem?_eq_some_iff.mp ht
      obtain ⟨c, hci, hA⟩ := hc.at_ i hti
      rw [et] at hA
      obtain ⟨t2, g1, g2⟩ := hA
      have le := colsIn_le cs (i + 1)
      rw [colsIn_take _ _ _ hci, List.length_append] at le
      refine ⟨t, _, rfl, SqT.of (s1 _ _ g1), rfl, _, _, rfl, _, _, rfl, rfl, rfl, ?_⟩
      dsimp only [tYes]
      rw [if_pos rfl]
      refine ⟨_, rfl, t2, rfl, ⟨_, SqT.of (s1 _ _ g2)⟩, walk_it walk_tup (fun j H' => Same H H' ∧ H' D = some (.lst ((colsIn (cs.take i) ++ c.2.take j).map V.str))) ⟨s1, by rw [List.take_zero, List.append_nil]; exact e1⟩ (fun j H' _ s => SqT.of (s.1 _ _ g2)) ?_ ?_⟩
      · rintro j y H2' H2 hj ⟨s2, e2⟩ ⟨rfl, hy⟩
        rw [List.getElem?_map] at hy
        obtain ⟨z, hz, rfl⟩ := Option.map_eq_some_iff.mp hy
        have zl := (List.getElem?_eq_some_iff.mp hz).1
        refine ⟨rfl, ?_⟩
        rw [if_pos rfl]
        refine ⟨_, rfl, _, e2, by rw [List.length_map, List.length_append, List.length_take, sizeLine_eq]; omega, fun b o e => ?_, ?_⟩
        · rw [upd_ne (ne_of_none e hD)]
          exact s2 _ _ e
        · rw [upd_same, List.take_add_one, hz, ← List.append_assoc, List.map_append (l₁ := colsIn (cs.take i) ++ c.2.take j)]
          rfl
      · rintro H2 ⟨s2, e2⟩
        rw [List.length_map, List.take_length] at e2
        exact ⟨s2, by rw [colsIn_take _ _ _ hci]; exact e2⟩
    · rintro H1 ⟨s1, e1⟩
      rw [List.length_map, hc.len, List.take_length] at e1
      refine ⟨D, _, rfl, .inr (SqL.of e1), by omega, fun p n hn hp => ⟨p, _, n, rfl, upd_same, fun L nd hL => g.nodup nd fun k hk => of_decide_eq_true (hL k hk), fun ns m g1 g2 g3 hm => ?_⟩⟩
      have sp := K0.Same.new (SetTO w p (fun j => decide (j ∈ colsIn cs)) n) hp
      have sm := K0.Same.new (.lst (ns.map V.str)) hm
      refine ⟨m, _, rfl, .inl ⟨SqL.of upd_same, fun t ht => ?_⟩⟩
      have st := K0.Same.new (.tup (ns.map V.str)) ht
      have s2 := K0.Same.tr s1 (K0.Same.tr sp sm)
      exact k ns t _ ⟨g1, g2, fun j => by rw [g3, decide_eq_true_eq]⟩ (K0.Same.tr s2 st) (none_back s2 ht) upd_same
end
/-! ### _are_clauses, of clauses of names -/
structure PreC (cs : List CL) : Prop extends Smol cs where
  tab : ∀ c ∈ cs, nameS c.1 = true
  nam : ∀ c ∈ cs, ∀ k ∈ c.2, nameS k = true
  one : ∀ c ∈ cs, 1 ≤ c.2.length
  up : cs.Pairwise fun c c' => ltC c c' = true
def spAreCl2 (K : PySem.W.Frag) : Sp := fun vs H Q _ => ∃ (a : Addr) (ts : List Addr) (cs : List CL), vs = [.ref a] ∧ SqT K H a (ts.map V.ref) ∧ Cls H ts cs ∧ PreC cs ∧ ∀ H' (b : Bool), Same H H' → (b = true ↔ WfC cs) → Q (.bl b) H'
theorem tabsOf_some (cs : List CL) : ∀ c ∈ cs, ∃ n : Nat, valV (tabsOf cs) (Sum.inr c.1 : Key) = some (V.int n) ∧ ∃ c' ∈ cs, c'.1 = c.1 ∧ c'.2.length = n := by
  induction cs using snoc_ind with
  | h0 => intro c h; cases h
  | hs l a ih =>
    intro c hc
    rw [tabsOf_snoc, valV_put]
    by_cases e : (Sum.inr c.1 : Key) = Sum.inr a.1
    · rw [if_pos e]
      refine ⟨_, rfl, a, List.mem_append_right _ List.mem_cons_self, ?_, rfl⟩
      injection e with e
      exact e.symm
    · rw [if_neg e]
      rcases List.mem_append.mp hc with h | h
      · obtain ⟨n, h1, c', h2, h3⟩ := ih c h
        exact ⟨n, h1, c', List.mem_append_left _ h2, h3⟩
      · rw [List.mem_singleton.mp h] at e
        exact absurd rfl e
/-- the widths agree with the dict's, clause by clause -/
def widOk (cs : List CL) (i : Nat) : Bool := decide (valV (tabsOf cs) (Sum.inr (cs.getD i ("", [])).1 : Key) = some (V.int (cs.getD i ("", [])).2.length))
theorem getD_mem {cs : List CL} {i : Nat} (h : i < cs.length) : cs.getD i ("", []) ∈ cs := by
  have e : cs.getD i ("", []) = cs[i] := by simp [List.getD, h]
  rw [e]
  exact List.getElem_mem h
theorem widOk_all (cs : List CL) : ((List.range cs.length).map (widOk cs)).all id = true ↔ ∀ c ∈ cs, ∀ c' ∈ cs, c.1 = c'.1 → c.2.length = c'.2.length := by
  rw [List.all_map, List.all_eq_true]
  constructor
  · intro h c hc c' hc' e
    have at_ : ∀ x ∈ cs, valV (tabsOf cs) (Sum.inr x.1 : Key) = some (V.int x.2.length) := fun x hx => by
      obtain ⟨i, hi, rfl⟩ := List.getElem_of_mem hx
      have z := h i (List.mem_range.mpr hi)
      have z2 := of_decide_eq_true (show widOk cs i = true from z)
      have e2 : cs.getD i ("", []) = cs[i] := by simp [List.getD, hi]
      rw [e2] at z2
      exact z2
    have h1 := at_ c hc
    have h2 := at_ c' hc'
    rw [e] at h1
    rw [h1] at h2
    injection h2 with h2
    injection h2 with h2
    omega
  · intro h i hi
    have hm := getD_mem (List.mem_range.mp hi)
    exact decide_eq_true (tabsOf_val cs h _ hm)
theorem PreC.wf {cs : List CL} (g : PreC cs) {ns : List Str} (ic : IsCols (colsIn cs) ns) (h1 : 1 ≤ cs.length) (h2 : cs.length ≤ 8) (h3 : ns.length ≤ 8) (h4 : ∀ c ∈ cs, ∀ c' ∈ cs, c.1 = c'.1 → c.2.length = c'.2.length) : WfC cs where
  some_ e := by rw [e] at h1; cases h1
  few := h2
  tab := g.tab
  nam := g.nam
  wide c hc := ⟨g.one c hc, g.wide c hc⟩
  up := g.up
  same := h4
  cols := ⟨ns, h3, fun c hc k hk => (ic.2.2 k).mpr (colsIn_mem.mpr ⟨c, hc, hk⟩)⟩
section
variable {P : Program} {w : World} {K : PySem.W.Frag} {mg : Str → Option Value} {base : Heap} {fI fW fN fC fA fT fO : Addr} {fdC fdA fdT fdO : FuncData}
theorem ok_areCl2 {f : Addr} {fd : FuncData} (F : Fun K "_are_clauses" "_are_clauses" sAreCl f fd) (T : TC K mg fI fW fN)
    (eC : Gl K mg "is_clause" fC) (GC : FnOk P w K mg base CX0 3 fC fdC ["value"] (spIsCl K)) (bC : Binds K fdC ["value"] [])
    (eA : Gl K mg "is_ascending" fA) (GA : FnOk P w K mg base CX0 1 fA fdA ["values"] (spIsAsc K)) (bA : Binds K fdA ["values"] [])
    (eT : Gl K mg "_tables_of" fT) (GT : FnOk P w K mg base CX0 1 fT fdT ["clauses"] (spTabsOf K)) (bT : Binds K fdT ["clauses"] [])
    (eO : Gl K mg "_columns_of" fO) (GO : FnOk P w K mg base CX0 1 fO fdO ["clauses"] (spColsOf2 K)) (bO : Binds K fdO ["clauses"] []) :
    FnOk P w K mg base CX0 4 f fd ["value"] (spAreCl2 K) := by
  refine F.ok scAreCl (fun vs H Q E h => ?_) (fun cdv A outer s H vs Q E hr h => ?_)
  · obtain ⟨a, ts, cs, rfl, _⟩ := h
    rfl
  · obtain ⟨a, ts, cs, rfl, ha, hc, g, k⟩ := h
    have hr1 : Room 1 _ := hr.mono (by decide)
    obtain ⟨tm, hm⟩ := T.mc
    obtain ⟨tk, hk⟩ := T.mcol
    refine ⟨_, pss_cons (ps_if (pw_or (pt_not (pt_val (pe_callB call_isi (by rfl) T.isi (by decide +kernel) (pa_cons (pv 0) (pa_cons (pe_bltn (v := .ty "tuple") (by rfl) T.tup (by decide +kernel) rfl) pa_nil)))))
        (pw_or1 (pt_not (pt_chain op_le op_le pe_int (pe_callB call_len_seq (by rfl) T.len PySem.boot_len (pa_cons (pv 0) pa_nil)) (pe_glob (v := .int 8) (by rfl) hm ⟨tm, rfl⟩))))).pt (pss_one (ps_ret pe_bl)) pss_nil)
      (pss_cons (ps_if (pw_or (pt_not (pt_val (pe_callB (cr_all rfl) (by rfl) T.all (by decide +kernel) (pa_cons (pe_lc (own := [("clause", 2)]) (g := gName 2) (tt := tYes) rfl scAreCl.nd (pi_tup (pv 0))
          (blkOk_by (own := [("clause", 2)]) (N := nAreCl) (sc := defScope sAreCl) (by decide +kernel)) (fun _ _ _ _ _ => pg_name (i := 2) scAreCl.nd rfl (Or.inl rfl)) (fun _ _ _ _ _ => pts_nil)
          (fun _ _ _ _ _ => pe_call GC hr (by rfl) eC.g eC.k bC .nil pass0 (pa_cons (pv 2) pa_nil))) pa_nil))))
        (pw_or1 (pt_not (pt_val (pe_call GA hr1 (by rfl) eA.g eA.k bA .nil pass0 (pa_cons (pv 0) pa_nil)))))).pt (pss_one (ps_ret pe_bl)) pss_nil)
      (pss_cons (ps_set (i := 1) scAreCl.nd rfl (Or.inr rfl) (pe_call GT hr1 (by rfl) eT.g eT.k bT .nil pass0 (pa_cons (pv 0) pa_nil)))
      (pss_one (ps_ret (pe_and (pe_cmpR op_le (pe_callB call_len_seq (by rfl) T.len PySem.boot_len (pa_cons (pe_call GO hr1 (by rfl) eO.g eO.k bO .nil pass0 (pa_cons (pv 0) pa_nil)) pa_nil)) (pe_glob (v := .int 8) (by rfl) hk ⟨tk, rfl⟩) (nomark _))
        (pe_one (pe_callB (cr_all rfl) (by rfl) T.all (by decide +kernel) (pa_cons (pe_lc (own := [("table", 3), ("columns", 4)]) (g := gTup K 2 (gCons (gName 3) (gCons (gName 4) gNil))) (tt := tYes) rfl scAreCl.nd (pi_tup (pv 0))
          (blkOk_by (own := [("table", 3), ("columns", 4)]) (N := nAreCl) (sc := defScope sAreCl) (by decide +kernel))
          (fun _ _ _ _ _ => pg_tup rfl (pgs_cons (pg_name (i := 3) scAreCl.nd rfl (Or.inl rfl)) (pgs_cons (pg_name (i := 4) scAreCl.nd rfl (Or.inl rfl)) pgs_nil))) (fun _ _ _ _ _ => pts_nil)
          (fun _ _ _ _ _ => pe_cmpR op_eq (pe_dget (lt1 hr.units) (pv 1) (pv 3) (fun _ _ => rfl)) (pe_callB (id := "len") (r := rLenS K) call_len_seq (by rfl) T.len PySem.boot_len (pa_cons (pv 4) pa_nil)) (nomark _))) pa_nil)))))))), ?_⟩
    have n1 : ts.length = cs.length := hc.len
    have few := g.few
    refine ⟨_, rfl, _, _, _, _, true, rfl, .ty _, tyT ha, kit_ty (by decide +kernel), true, rfl, if_neg_of rfl ⟨_, rfl, a, _, rfl, .inr ha, _, _, rfl, rfl, _, rfl, ?_⟩⟩
    rw [List.length_map]
    refine if_both (fun c1 => ?_) (fun c1 => ?_)
    case refine_2 =>
      refine ⟨_, rfl, if_pos_of rfl (k H false K0.Same.rfl' ⟨fun z => absurd z Bool.false_ne_true, fun z => ?_⟩)⟩
      have := List.length_pos_iff.mpr z.some_
      have := of_decide_eq_false c1
      omega
    have c1 := of_decide_eq_true c1
    refine ⟨_, _, rfl, rfl, _, rfl, ?_⟩
    by_cases c2 : (ts.length : Int) ≤ 8
    case neg =>
      rw [decide_eq_false c2]
      refine if_pos_of rfl (k H false K0.Same.rfl' ⟨fun z => absurd z Bool.false_ne_true, fun z => ?_⟩)
      have := z.few
      omega
    rw [decide_eq_true c2]
    refine if_neg_of rfl ?_
    refine ⟨_, rfl, a, rfl, ⟨_, ha⟩, fun D hD => lc_pure (f := fun _ => .bl true) (walk_tup (K := K) (a := a) (xs := ts.map V.ref)) (by rw [List.length_map, sizeLine_eq]; omega) hD (fun H1 s1 => seqT s1 ha) ?_ gName_mono ?_⟩
    · rintro i x H1 H2 hi s1 ⟨rfl, hx⟩
      rw [List.getElem?_map] at hx
      obtain ⟨t, ht, rfl⟩ := Option.map_eq_some_iff.mp hx
      obtain ⟨hti, et⟩ := List.getElem?_eq_some_iff.mp ht
      obtain ⟨c, hci, hA⟩ := hc.at_ i hti
      rw [et] at hA
      have hcm := List.mem_of_getElem? hci
      exact ⟨rfl, fun Q' q => ⟨_, rfl, V.ref t, true, rfl, (hA.same s1).clv (g.tab c hcm) (g.nam c hcm) ⟨g.one c hcm, g.wide c hcm⟩, fun H4 s4 => q H4 s4⟩⟩
    · intro H1 s1 hD1
      have h1a := seqT s1 ha
      refine ⟨D, (List.range (ts.map V.ref).length).map fun _ => true, rfl, by rw [List.map_map]; exact SqL.of hD1, _, rfl, ?_⟩
      rw [all_true]
      refine if_neg_of rfl ⟨_, rfl, a, _, _, rfl, h1a, ?_, by rw [List.length_map]; omega, cls_kv (hc.same s1), okAdj_cls cs, fun k hk => ?_, fun H2 s2 => ?_⟩
      · intro e
        rw [List.map_eq_nil_iff] at e
        rw [e] at c1
        simp at c1
      · obtain ⟨c, _, rfl⟩ := List.mem_map.mp hk
        rw [keyC_depth]
        decide
      rw [ascB_cls g.up]
      refine ⟨_, rfl, if_neg_of rfl ?_⟩
      have s02 := K0.Same.tr s1 s2
      refine ⟨_, rfl, a, ts, cs, rfl, seqT s02 ha, hc.same s02, by omega, fun d H3 s3 hd ed => ?_⟩
      have s03 := K0.Same.tr s02 s3
      refine ⟨_, rfl, a, ts, cs, rfl, seqT s03 ha, hc.same s03, g.toSmol, fun ns t H4 ic s4 ht et => ?_⟩
      have s04 := K0.Same.tr s03 s4
      have ed4 := s4 _ _ ed
      refine ⟨t, _, rfl, .inr (SqT.of et), _, _, rfl, rfl, _, rfl, ?_⟩
      rw [List.length_map]
      refine if_both (fun c3 => ?_) (fun c3 => ?_)
      case refine_2 =>
        refine k H4 false s04 ⟨fun z => absurd z Bool.false_ne_true, fun z => ?_⟩
        have := z.ncols ic
        have := of_decide_eq_false c3
        omega
      have c3 := of_decide_eq_true c3
      refine ⟨_, rfl, a, rfl, ⟨_, seqT s04 ha⟩, fun D2 hD2 => lc_pure (f := fun i => .bl (widOk cs i)) (walk_tup (K := K) (a := a) (xs := ts.map V.ref)) (by rw [List.length_map, sizeLine_eq]; omega) hD2 (fun H5 s5 => seqT s5 (seqT s04 ha)) ?_ gPair_mono ?_⟩
      · rintro i x H5 H6 hi s5 ⟨rfl, hx⟩
        rw [List.getElem?_map] at hx
        obtain ⟨t', ht', rfl⟩ := Option.map_eq_some_iff.mp hx
        obtain ⟨hti, et'⟩ := List.getElem?_eq_some_iff.mp ht'
        obtain ⟨c, hci, hA⟩ := hc.at_ i hti
        rw [et'] at hA
        have hcm := List.mem_of_getElem? hci
        have ec : cs.getD i ("", []) = c := by simp [List.getD, hci]
        obtain ⟨t2, g1, g2⟩ := hA.same (K0.Same.tr s04 s5)
        refine ⟨t', _, rfl, SqT.of g1, rfl, _, _, rfl, _, _, rfl, rfl, rfl, fun Q' q => ?_⟩
        obtain ⟨n, hn, _⟩ := tabsOf_some cs c hcm
        have dg : DGet H6 d (V.str c.1) (some (V.int n)) := by
          rw [← hn]
          exact DGet.k (k := Sum.inr c.1) (s5 _ _ ed4)
        refine ⟨_, rfl, _, rfl, d, V.int n, rfl, dg, _, rfl, t2, _, rfl, .inr (SqT.of g2), rfl, ?_⟩
        have q' := q H6 Same.rfl'
        unfold widOk at q'
        rw [ec, hn] at q'
        rw [List.length_map]
        have e : decide (V.int (n : Int) = V.int (c.2.length : Int)) = decide (some (V.int (n : Int)) = some (V.int (c.2.length : Int))) := decide_eq_decide.mpr ⟨fun z => by rw [z], fun z => by injection z⟩
        rw [e]
        exact q'
      · intro H5 s5 hD5
        refine ⟨D2, (List.range (ts.map V.ref).length).map (widOk cs), rfl, by rw [List.map_map]; exact SqL.of hD5, ?_⟩
        refine k H5 _ (K0.Same.tr s04 s5) ?_
        rw [List.length_map, n1, widOk_all]
        exact ⟨fun z => g.wf ic (by omega) (by omega) (by omega) z, fun z => z.same⟩
end
end K0

/-! ## X4 -/
set_option maxRecDepth 100000
set_option maxHeartbeats 2000000
namespace K0
open PySem L2 NS RZ
def spAreAsk2 (K : PySem.W.Frag) : Sp := fun vs H Q _ => ∃ (a b : Addr) (ts : List Addr) (cs : List CL) (as : List Str), vs = [.ref a, .ref b] ∧ SqT K H a (ts.map V.ref) ∧ Cls H ts cs ∧ Smol cs ∧
  H b = some (.tup (as.map V.str)) ∧ as.Nodup ∧ as.length ≤ 1000 ∧ (∀ k ∈ as, nameS k = true) ∧ ∀ H' (b : Bool), Same H H' → (b = true ↔ ∀ k ∈ as, k ∈ colsIn cs) → Q (.bl b) H'
theorem all_in (as : List Str) (p : Str → Bool) : ((List.range as.length).map fun i => p (as.getD i "")).all id = as.all p := by
  rw [List.all_map]
  have e : as.all p = (List.range as.length).all (fun i => p (as.getD i "")) := by
    rw [Bool.eq_iff_iff, List.all_eq_true, List.all_eq_true]
    constructor
    · intro h i hi
      have hi' := List.mem_range.mp hi
      have e : as.getD i "" = as[i] := by simp [List.getD, hi']
      rw [e]
      exact h _ (List.getElem_mem hi')
    · intro h x hx
      obtain ⟨i, hi, rfl⟩ := List.getElem_of_mem hx
      have z := h i (List.mem_range.mpr hi)
      have e : as.getD i "" = as[i] := by simp [List.getD, hi]
      rwa [e] at z
  rw [e]
  rfl
section
variable {P : Program} {w : World} {K : PySem.W.Frag} {mg : Str → Option Value} {base : Heap} {fI fW fN fA fD fO : Addr} {fdA fdD fdO : FuncData}
theorem ok_areAsk2 {f : Addr} {fd : FuncData} (F : Fun K "_are_asked" "_are_asked" sAreAsk f fd) (T : T2 K mg fI fW)
    (eA : Gl K mg "are_names" fA) (GA : FnOk P w K mg base CX0 2 fA fdA ["value"] spAreNam) (bA : Binds K fdA ["value"] [])
    (eD : Gl K mg "are_different" fD) (GD : FnOk P w K mg base CX0 1 fD fdD ["values"] (spDiff K)) (bD : Binds K fdD ["values"] [])
    (eO : Gl K mg "_columns_of" fO) (GO : FnOk P w K mg base CX0 1 fO fdO ["clauses"] (spColsOf2 K)) (bO : Binds K fdO ["clauses"] []) :
    FnOk P w K mg base CX0 3 f fd ["clauses", "value"] (spAreAsk2 K) := by
  refine F.ok scAreAsk (fun vs H Q E h => ?_) (fun cdv A outer s H vs Q E hr h => ?_)
  · obtain ⟨a, b, ts, cs, as, rfl, _⟩ := h
    rfl
  · obtain ⟨a, b, ts, cs, as, rfl, ha, hc, g, hb, nd, sh, nam, k⟩ := h
    have hr1 : Room 1 _ := hr.mono (by decide)
    refine ⟨_, pss_cons (ps_if (pw_or (pt_not (pt_val (pe_call GA hr (by rfl) eA.g eA.k bA .nil pass0 (pa_cons (pv 1) pa_nil))))
        (pw_or1 (pt_not (pt_val (pe_call GD hr1 (by rfl) eD.g eD.k bD .nil pass0 (pa_cons (pv 1) pa_nil)))))).pt (pss_one (ps_ret pe_bl)) pss_nil)
      (pss_cons (ps_set (i := 2) scAreAsk.nd rfl (Or.inr rfl) (pe_call GO hr1 (by rfl) eO.g eO.k bO .nil pass0 (pa_cons (pv 0) pa_nil)))
      (pss_one (ps_ret (pe_callB (cr_all rfl) (by rfl) T.all (by decide +kernel) (pa_cons (pe_lc (own := [("column", 3)]) (g := gName 3) (tt := tYes) rfl scAreAsk.nd (pi_tup (pv 1))
          (blkOk_by (own := [("column", 3)]) (N := nAreAsk) (sc := defScope sAreAsk) (by decide +kernel)) (fun _ _ _ _ _ => pg_name (i := 3) scAreAsk.nd rfl (Or.inl rfl)) (fun _ _ _ _ _ => pts_nil)
          (fun _ _ _ _ _ => pe_cmpR (r := rIn K false) op_in_seq (pv 3) (pv 2) rfl)) pa_nil))))), ?_⟩
    have tu : Tu H (.ref b) := fun a' xs e h => by
      cases e
      rw [hb] at h
      cases h
      refine ⟨by rw [List.length_map]; omega, fun x hx => ?_⟩
      obtain ⟨z, hz, rfl⟩ := List.mem_map.mp hx
      exact ⟨.str z, Nat.le_trans (nameS_len (nam z hz)) (by decide)⟩
    refine ⟨_, rfl, .ref b, rfl, .tup hb, tu, fun H1 s1 => ⟨_, rfl, ?_⟩⟩
    have e1 : onTup H (fun xs => xs.all nameV) (.ref b) = true := by
      simp only [onTup, hb]
      exact strs_all2 nam
    rw [e1]
    refine if_neg_of rfl ⟨_, rfl, b, as, rfl, .inl (SqT.of (s1 _ _ hb)), by omega, fun H2 s2 => ⟨_, rfl, ?_⟩⟩
    rw [decide_eq_true nd]
    have s02 := K0.Same.tr s1 s2
    refine if_neg_of rfl ⟨_, rfl, a, ts, cs, rfl, seqT s02 ha, hc.same s02, g, fun ns t H3 ic s3 ht et => ?_⟩
    have s03 := K0.Same.tr s02 s3
    refine ⟨_, rfl, b, rfl, ⟨_, SqT.of (s03 _ _ hb)⟩, fun D hD => lc_pure (f := fun i => .bl (decide (as.getD i "" ∈ ns))) (walk_tup (K := K) (a := b) (xs := as.map V.str)) (by rw [List.length_map, sizeLine_eq]; omega) hD (fun H1 s1 => SqT.of (s1 _ _ (s03 _ _ hb))) ?_ gName_mono ?_⟩
    · rintro i x H4 H5 hi s4 ⟨rfl, hx⟩
      rw [List.getElem?_map] at hx
      obtain ⟨z, hz, rfl⟩ := Option.map_eq_some_iff.mp hx
      have ez : as.getD i "" = z := by simp [List.getD, hz]
      refine ⟨rfl, fun Q' q => ⟨_, rfl, _, rfl, t, _, rfl, .inr (SqT.of (s4 _ _ et)), rfl, flat_strs ns, ?_⟩⟩
      have q' := q H5 Same.rfl'
      rw [ez, ← inV_strs] at q'
      exact q'
    · intro H4 s4 hD4
      refine ⟨D, (List.range (as.map V.str).length).map fun i => decide (as.getD i "" ∈ ns), rfl, by rw [List.map_map]; exact SqL.of hD4, ?_⟩
      refine k H4 _ (K0.Same.tr s03 s4) ?_
      rw [List.length_map, all_in as fun k => decide (k ∈ ns), List.all_eq_true]
      exact forall_congr' fun k => forall_congr' fun _ => by rw [decide_eq_true_eq, ic.2.2]
end
/-! ### what an own class of errors is -/
structure XC (K : PySem.W.Frag) (mg : Str → Option Value) (x : Str) (C : Addr) : Prop where
  gC : mg x = some (.ref C)
  kC : PySem.W.keepIn K (.ref C) = true
  sB : PySem.W.subIn K (.ref C) (.type "BaseException") = some true
  tC : PySem.W.typeIn K (.ref C) = some (.type "type")
abbrev veM : List Value := [.type "ValueError", .type "Exception", .type "BaseException", .type "object"]
structure XV (K : PySem.W.Frag) (mg : Str → Option Value) (x : Str) (C : Addr) : Prop extends XC K mg x C where
  xC : PySem.W.excIn K C veM "ValueError.__new__" = true
/-! ### Question(clauses, asked), which may be refused -/
structure PreQ (q : PQ) : Prop where
  c : PreC q.cls
  nd : q.asked.Nodup
  nam : ∀ k ∈ q.asked, nameS k = true
  len : q.asked.length ≤ 1000
def spInit2 (K : PySem.W.Frag) (C CQ : Addr) : Sp := fun vs H Q E => ∃ (p dx a b : Addr) (ts : List Addr) (q : PQ), vs = [.ref p, .ref a, .ref b] ∧ H p = some (.ins C dx []) ∧ SqT K H a (ts.map V.ref) ∧ Cls H ts q.cls ∧ H b = some (.tup (q.asked.map V.str)) ∧ PreQ q ∧
  (WfQ q → ∀ H' tc ta to td ns, tc = a → QuA K C H' p q tc ta to td ts ns → (∀ c o, c ≠ p → H c = some o → H' c = some o) → Q .non H') ∧ (¬ WfQ q → ∀ H', Same H H' → E (.ref CQ) none H')
section
variable {P : Program} {w : World} {K : PySem.W.Frag} {mg : Str → Option Value} {base : Heap} {C CQ fC fA fT fO : Addr} {fdC fdA fdT fdO : FuncData}
theorem ok_init2 {f : Addr} {fd : FuncData} (F : Fun K "__init__" "Question.__init__" (sQ 0) f fd) (T : TQu K C) (XQ : XV K mg "InvalidQuestion" CQ)
    (eC : Gl K mg "_are_clauses" fC) (GC : FnOk P w K mg base CX0 4 fC fdC ["value"] (spAreCl2 K)) (bC : Binds K fdC ["value"] [])
    (eA : Gl K mg "_are_asked" fA) (GA : FnOk P w K mg base CX0 3 fA fdA ["clauses", "value"] (spAreAsk2 K)) (bA : Binds K fdA ["clauses", "value"] [])
    (eT : Gl K mg "_tables_of" fT) (GT : FnOk P w K mg base CX0 1 fT fdT ["clauses"] (spTabsOf K)) (bT : Binds K fdT ["clauses"] [])
    (eO : Gl K mg "_columns_of" fO) (GO : FnOk P w K mg base CX0 1 fO fdO ["clauses"] (spColsOf2 K)) (bO : Binds K fdO ["clauses"] []) :
    FnOk P w K mg base (L2.CX P w) 5 f fd ["self", "clauses", "asked"] (spInit2 K C CQ) := by
  refine F.okX scInit (fun vs H Q E h => ?_) (fun cdv A outer s H vs Q E hr h => ?_)
  · obtain ⟨p, dx, a, b, ts, q, rfl, _⟩ := h
    rfl
  · obtain ⟨p, dx, a, b, ts, q, rfl, hp, ha, hc, hb, g, k, kx⟩ := h
    have hr1 : Room 1 _ := hr.mono (by decide)
    refine ⟨_, pss_cons (ps_if (pw_or (pt_not (pt_val (pe_call (E := E0) GC hr (by rfl) eC.g eC.k bC .nil pass0 (pa_cons (pv 1) pa_nil))))
        (pw_or1 (pt_not (pt_val (pe_call (E := E0) GA (hr.mono (by decide)) (by rfl) eA.g eA.k bA .nil pass0 (pa_cons (pv 1) (pa_cons (pv 2) pa_nil))))))).pt
        (pss_one (ps_raise rfl (takes_of rfl rfl rfl rfl) (pmk_own PySem.F.excBase_ValueError XQ.xC XQ.gC XQ.kC (raises_own XQ.sB XQ.tC) rfl))) pss_nil)
      (pss_cons (ps_fld (pv 0) (pv 1) rfl)
      (pss_cons (ps_fld (pv 0) (pv 2) rfl)
      (pss_cons (ps_fld (pv 0) (pe_call (E := E0) GO hr1 (by rfl) eO.g eO.k bO .nil pass0 (pa_cons (pv 1) pa_nil)) rfl)
      (pss_one (ps_fld (pv 0) (pe_call (E := E0) GT hr1 (by rfl) eT.g eT.k bT .nil pass0 (pa_cons (pv 1) pa_nil)) rfl))))), ?_⟩
    have n1 : ts.length = q.cls.length := hc.len
    have c8 := g.c.few
    refine ⟨_, rfl, a, ts, q.cls, rfl, ha, hc, g.c, fun H1 b1 s1 hb1 => ⟨_, rfl, ?_⟩⟩
    cases b1 with
    | false =>
      exact if_pos_of rfl (kx (fun z => by cases hb1.mpr z.c) H1 s1)
    | true =>
    have wc := hb1.mp rfl
    refine if_neg_of rfl ?_
    refine ⟨_, rfl, _, rfl, a, b, ts, q.cls, q.asked, rfl, seqT s1 ha, hc.same s1, g.c.toSmol, s1 _ _ hb, g.nd, g.len, g.nam, fun H2 b2 s2 hb2 => ⟨_, rfl, ?_⟩⟩
    have s02 := K0.Same.tr s1 s2
    cases b2 with
    | false =>
      exact if_pos_of rfl (kx (fun z => by cases hb2.mpr z.ask) H2 s02)
    | true =>
    have k := k ⟨wc, g.nd, hb2.mp rfl⟩
    refine if_neg_of rfl ?_
    have hp2 := s02 _ _ hp
    have notup : ∀ xs, H p ≠ some (.tup xs) := fun xs e => by rw [hp] at e; cases e
    have nofrz : ∀ o u, H p ≠ some (.frz o u) := fun o u e => by rw [hp] at e; cases e
    have kT : ∀ {H' : Hp}, Kd p H H' → SqT K H' a (ts.map V.ref) := fun kd => sqT_kd notup nofrz kd ha
    have pb : b ≠ p := fun e => notup _ (by rw [← e]; exact hb)
    refine ⟨_, rfl, _, rfl, p, C, dx, _, rfl, hp2, T.cl, T.n1, by show 0 < 1000; decide, ?_⟩
    refine ⟨_, rfl, _, rfl, p, C, dx, _, rfl, upd_same, T.cl, T.n2, Nat.lt_of_le_of_lt (qF1_le a) (by decide), ?_⟩
    have kd3 : Kd p H (upd (upd H2 p (.ins C dx (qF1 a))) p (.ins C dx (qF2 a b))) := fun c o n e => by
      rw [upd_ne n, upd_ne n]
      exact s02 _ _ e
    refine ⟨_, rfl, a, ts, q.cls, rfl, kT kd3, hc.kdI notup kd3, g.c.toSmol, fun ns t H4 ic s4 ht et => ?_⟩
    have kd4 : Kd p H H4 := kd3.tr (Kd.of s4)
    refine ⟨_, rfl, p, C, dx, _, rfl, s4 _ _ upd_same, T.cl, T.n3, Nat.lt_of_le_of_lt (qF2_le a b) (by decide), ?_⟩
    have pt : t ≠ p := fun e => by
      rw [e, upd_same] at ht
      cases ht
    have kd5 : Kd p H (upd H4 p (.ins C dx (qF3 a b t))) := fun c o n e => by
      rw [upd_ne n]
      exact kd4 _ _ n e
    have et5 : upd H4 p (.ins C dx (qF3 a b t)) t = some (.tup (ns.map V.str)) := by rw [upd_ne pt]; exact et
    refine ⟨_, rfl, a, ts, q.cls, rfl, kT kd5, hc.kdI notup kd5, by omega, fun d H6 s6 hd ed => ?_⟩
    have kd6 : Kd p H H6 := kd5.tr (Kd.of s6)
    refine ⟨_, rfl, p, C, dx, _, rfl, s6 _ _ upd_same, T.cl, T.n4, Nat.lt_of_le_of_lt (qF3_le a b t) (by decide), ?_⟩
    have pd : d ≠ p := fun e => by
      rw [e, upd_same] at hd
      cases hd
    have kd7 : Kd p H (upd H6 p (.ins C dx (qFs a b t d))) := fun c o n e => by
      rw [upd_ne n]
      exact kd6 _ _ n e
    refine k _ a b t d ns rfl ⟨⟨dx, upd_same⟩, kT kd7, hc.kdI notup kd7, kd7 _ _ pb hb, ?_, ic, ?_⟩ fun c o n e => kd7 _ _ n e
    · show upd H6 p (.ins C dx (qFs a b t d)) t = _
      rw [upd_ne pt]
      exact s6 _ _ et5
    · show upd H6 p (.ins C dx (qFs a b t d)) d = _
      rw [upd_ne pd]
      exact ed
end
end K0

/-! ## X5 -/
set_option maxRecDepth 100000
set_option maxHeartbeats 4000000
namespace K0
open PySem L2 NS RZ
theorem cutV_drop (xs : List V) (k : Nat) : cutV xs (some (k : Int)) none = xs.drop k := by
  unfold cutV
  have z : HT.sIx xs.length 0 (some (k : Int)) = min k xs.length := HT.sIx_nat _ _ k
  rw [z, HT.sIx_none]
  rcases Nat.le_total k xs.length with h | h
  · rw [Nat.min_eq_left h]
    exact List.take_of_length_le (by rw [List.length_drop]; omega)
  · rw [Nat.min_eq_right h, List.drop_of_length_le h, List.drop_of_length_le (Nat.le_refl _), List.take_nil]
theorem cut_part (xs : List V) (k : Nat) (h0 : 0 < k) (h : k ≤ xs.length) : ¬ (HT.sIx xs.length 0 (some (k : Int)) = 0 ∧ HT.sIx xs.length xs.length none = xs.length) := by
  rintro ⟨e, _⟩
  have z : HT.sIx xs.length 0 (some (k : Int)) = min k xs.length := HT.sIx_nat _ _ k
  omega
/-- where what a line tells stands -/
def ToA (H : Hp) (r : V) : Option LT → Prop
  | none => r = .non
  | some (.cl c) => ∃ t u, r = .ref t ∧ H t = some (.tup [.str "clause", .ref u]) ∧ ClA H u c
  | some (.as l) => ∃ t u, r = .ref t ∧ H t = some (.tup [.str "asked", .ref u]) ∧ H u = some (.tup (l.map V.str))
theorem ToA.same {H H' : Hp} {r : V} {t : Option LT} (h : ToA H r t) (s : Same H H') : ToA H' r t := by
  cases t with
  | none => exact h
  | some t =>
    cases t with
    | cl c =>
      obtain ⟨t, u, e, h1, h2⟩ := h
      exact ⟨t, u, e, s _ _ h1, h2.same s⟩
    | as l =>
      obtain ⟨t, u, e, h1, h2⟩ := h
      exact ⟨t, u, e, s _ _ h1, s _ _ h2⟩
abbrev sClAs : Stmt := top 27
def spClAs : Sp := fun vs H Q _ => ∃ v, vs = [v] ∧ Da H v ∧ ShT v ∧ ∀ H' r, Same H H' → ToA H' r (toldW (wds (lnO v))) → Q r H'
theorem wds_sz {v : V} (h : ShT v) : ∀ p ∈ wds (lnO v), p.length ≤ 900 ∧ okS p := by
  intro p hp
  cases v with
  | str z =>
    obtain ⟨h1, h2⟩ := h z rfl
    obtain ⟨q1, q2⟩ := wds_word (show p ∈ Txt.split z spW from hp)
    exact ⟨Nat.le_trans q1 h1, fun c hc => h2 c (q2 c hc)⟩
  | _ =>
    rw [List.mem_singleton.mp (show p ∈ ([""] : List Str) from hp)]
    exact ⟨by decide, fun c hc => by cases hc⟩
/-- a tuple of short texts -/
theorem tu_strs {H : Hp} {b : Addr} {ws : List Str} (hb : H b = some (.tup (ws.map V.str))) (n : ws.length ≤ 1000) (h : ∀ p ∈ ws, p.length ≤ 900) : Tu H (.ref b) := fun a' xs e h' => by
  cases e
  rw [hb] at h'
  cases h'
  refine ⟨by rw [List.length_map]; exact n, fun x hx => ?_⟩
  obtain ⟨z, hz, rfl⟩ := List.mem_map.mp hx
  exact ⟨.str z, show z.length ≤ 1000 from Nat.le_trans (h z hz) (by decide)⟩
theorem onTup_strs {H : Hp} {b : Addr} {ws : List Str} (hb : H b = some (.tup (ws.map V.str))) : onTup H (fun xs => xs.all nameV) (.ref b) = ws.all nameS := by
  simp only [onTup, hb]
  rw [List.all_map]
  rfl
section
variable {P : Program} {w : World} {K : PySem.W.Frag} {mg : Str → Option Value} {base : Heap} {fW fC fA fD : Addr} {fdW fdC fdA fdD : FuncData}
theorem scClAs : FnScope ["line", "words"] ["line"] (defScope sClAs) := ⟨rfl, rfl, rfl, by decide +kernel, rfl, by decide +kernel, by decide +kernel⟩
theorem ok_clAs {f : Addr} {fd : FuncData} (F : Fun K "_clause_or_asked" "_clause_or_asked" sClAs f fd) (len : mg "len" = none)
    (eW : Gl K mg "words_of" fW) (GW : FnOk P w K mg base CX0 1 fW fdW ["line"] spWords) (bW : Binds K fdW ["line"] [])
    (eC : Gl K mg "is_clause" fC) (GC : FnOk P w K mg base CX0 3 fC fdC ["value"] (spIsCl K)) (bC : Binds K fdC ["value"] [])
    (eA : Gl K mg "are_names" fA) (GA : FnOk P w K mg base CX0 2 fA fdA ["value"] spAreNam) (bA : Binds K fdA ["value"] [])
    (eD : Gl K mg "are_different" fD) (GD : FnOk P w K mg base CX0 1 fD fdD ["values"] (spDiff K)) (bD : Binds K fdD ["values"] []) :
    FnOk P w K mg base CX0 4 f fd ["line"] spClAs := by
  refine F.ok scClAs (fun vs H Q E h => ?_) (fun cdv A outer s H vs Q E hr h => ?_)
  · obtain ⟨v, rfl, _⟩ := h
    rfl
  · obtain ⟨v, rfl, d, sh, k⟩ := h
    have hr1 : Room 1 _ := hr.mono (by decide)
    have hr2 : Room 2 _ := hr.mono (by decide)
    refine ⟨_, pss_cons (ps_set (i := 1) scClAs.nd rfl (Or.inl rfl) (pe_call GW hr1 (by rfl) eW.g eW.k bW .nil pass0 (pa_cons (pv 0) pa_nil)))
      (pss_cons (ps_if (PW.pt (pw_and (pt_cmpR op_eq (pe_ix ix_tup (pv 1) pe_int (fun _ _ => rfl)) pe_str (nomark _))
          (pw_and (pt_cmpR op_gt (pe_callB call_len_seq (by rfl) len PySem.boot_len (pa_cons (pv 1) pa_nil)) pe_int (nomark _))
          (pw_and1 (pt_val (pe_call GC hr (by rfl) eC.g eC.k bC .nil pass0 (pa_cons (pe_tup (pa_cons (pe_ix ix_tup (pv 1) pe_int (fun _ _ => rfl)) (pa_cons (pe_slice sl_tup (pv 1) (po_some pe_int) po_none) pa_nil))) pa_nil)))))))
        (pss_one (ps_ret (pe_tup (pa_cons pe_str (pa_cons (pe_tup (pa_cons (pe_ix ix_tup (pv 1) pe_int (fun _ _ => rfl)) (pa_cons (pe_slice sl_tup (pv 1) (po_some pe_int) po_none) pa_nil))) pa_nil))))) pss_nil)
      (pss_cons (ps_if (PW.pt (pw_and (pt_cmpR op_eq (pe_ix ix_tup (pv 1) pe_int (fun _ _ => rfl)) pe_str (nomark _))
          (pw_and (pt_val (pe_call GA hr2 (by rfl) eA.g eA.k bA .nil pass0 (pa_cons (pe_slice sl_tup (pv 1) (po_some pe_int) po_none) pa_nil)))
          (pw_and1 (pt_val (pe_call GD hr1 (by rfl) eD.g eD.k bD .nil pass0 (pa_cons (pe_slice sl_tup (pv 1) (po_some pe_int) po_none) pa_nil)))))))
        (pss_one (ps_ret (pe_tup (pa_cons pe_str (pa_cons (pe_slice sl_tup (pv 1) (po_some pe_int) po_none) pa_nil))))) pss_nil)
      (pss_one (ps_ret pe_non)))), ?_⟩
    refine ⟨_, rfl, v, rfl, d, sh, fun H1 t s1 ht et => ?_⟩
    have hl := wds_len sh
    have hz := wds_sz sh
    have ne := wds_ne (lnO v)
    generalize wds (lnO v) = ws at et k hl hz ne
    obtain ⟨w0, r, rfl⟩ := List.exists_cons_of_ne_nil ne
    refine ⟨_, rfl, t, _, _, .str w0, rfl, rfl, SqT.of et, atI_nat (j := 0) rfl, ?_⟩
    have h1 : (w0 :: r).length = r.length + 1 := rfl
    have eD : ∀ (H' : Hp) (u : Addr), Same H1 H' → SqT K H' t ((w0 :: r).map V.str) := fun H' u s => SqT.of (s _ _ et)
    have ec1 : cutV ((w0 :: r).map V.str) (some 1) none = r.map V.str := cutV_drop _ 1
    have part1 : ¬ (HT.sIx ((w0 :: r).map V.str).length 0 (some ((1 : Nat) : Int)) = 0 ∧ HT.sIx ((w0 :: r).map V.str).length ((w0 :: r).map V.str).length none = ((w0 :: r).map V.str).length) := cut_part _ 1 (by decide) (by rw [List.length_map]; exact Nat.succ_le_succ (Nat.zero_le _))
    /- behind the clause -/
    have rest : ∀ H2, Same H1 H2 → (¬ ∃ c, toldW (w0 :: r) = some (.cl c)) → tSeq (tIfS (tAnd (tTest (tOp rEq (tOp (rIxT K) (tVar 1) (tC (V.int 0))) (tC (V.str "asked")))) (tAnd (tB (tCall spAreNam [] E0 (tCons (tSl (rSlT K) (tVar 1) (tPart (tC (V.int 1))) tNoPart) tNil))) (tB (tCall (spDiff K) [] E0 (tCons (tSl (rSlT K) (tVar 1) (tPart (tC (V.int 1))) tNoPart) tNil)))))
        (tRet (tTup (tCons (tC (V.str "asked")) (tCons (tSl (rSlT K) (tVar 1) (tPart (tC (V.int 1))) tNoPart) tNil)))) tNext) (tRet (tC V.non)) { nx := fun x H' => Q V.non H', rt := Q } [some v, some (.ref t)] H2 := fun H2 s2 no => by
      have et2 := s2 _ _ et
      have fin : ∀ H', Same H1 H' → (∀ l, toldW (w0 :: r) ≠ some (.as l)) → Q .non H' := fun H' s' no' => k H' .non (K0.Same.tr s1 s') (by
        cases e : toldW (w0 :: r) with
        | none => exact rfl
        | some x =>
          cases x with
          | cl c => exact absurd ⟨c, e⟩ no
          | as l => exact absurd e (no' l))
      refine ⟨_, rfl, t, _, _, .str w0, rfl, rfl, SqT.of et2, atI_nat (j := 0) rfl, rfl, _, rfl, if_both (fun c1 => ?_) (fun c1 => ?_)⟩
      case refine_2 =>
        refine if_neg_of rfl (fin H2 s2 fun l e => ?_)
        have nw : ¬ w0 = ("asked" : Str) := fun z => of_decide_eq_false c1 (by rw [z])
        unfold toldW at e
        dsimp only at e
        split at e
        · cases r with
          | nil => cases e
          | cons a b => dsimp only at e; split at e <;> cases e
        · rw [if_neg (fun z => nw z.1)] at e
          cases e
      have w1 : w0 = ("asked" : Str) := by
        have z := of_decide_eq_true c1
        injection z
      have toldA : toldW (w0 :: r) = if (r.all nameS && decide r.Nodup) = true then some (.as r) else none := by
        unfold toldW
        dsimp only
        rw [if_neg (fun z => ne_ca (z.symm.trans w1))]
        by_cases c : (r.all nameS && decide r.Nodup) = true
        · rw [if_pos ⟨w1, c⟩, if_pos c]
        · rw [if_neg (fun z => c z.2), if_neg c]
      refine ⟨_, rfl, 1, rfl, t, _, rfl, SqT.of et2, part1, fun b hb => ?_⟩
      rw [ec1]
      have s3 := K0.Same.new (.tup (r.map V.str)) hb
      refine ⟨.ref b, rfl, .tup upd_same, tu_strs upd_same (by omega) (fun p hp => (hz p (List.mem_cons_of_mem _ hp)).1), fun H4 s4 => ⟨_, rfl, ?_⟩⟩
      rw [onTup_strs upd_same]
      have s04 := K0.Same.tr s2 (K0.Same.tr s3 s4)
      refine if_both (fun c2 => ?_) (fun c2 => ?_)
      case refine_2 =>
        refine if_neg_of rfl (fin H4 s04 fun l e => ?_)
        rw [toldA, c2] at e
        cases e
      refine ⟨_, rfl, 1, rfl, t, _, rfl, SqT.of (s04 _ _ et), part1, fun b2 hb2 => ?_⟩
      rw [ec1]
      have s5 := K0.Same.new (.tup (r.map V.str)) hb2
      refine ⟨b2, r, rfl, .inl (SqT.of upd_same), by omega, fun H6 s6 => ⟨_, rfl, ?_⟩⟩
      have s06 := K0.Same.tr s04 (K0.Same.tr s5 s6)
      refine if_both (fun c3 => ?_) (fun c3 => ?_)
      case refine_2 =>
        refine fin H6 s06 fun l e => ?_
        rw [toldA, c2, c3] at e
        cases e
      refine ⟨_, rfl, 1, rfl, t, _, rfl, SqT.of (s06 _ _ et), part1, fun b3 hb3 => ?_⟩
      rw [ec1]
      have s7 := K0.Same.new (.tup (r.map V.str)) hb3
      refine ⟨by show 2 ≤ sizeLine; decide, fun p hp => ?_⟩
      have s8 := K0.Same.new (.tup [.str "asked", .ref b3]) hp
      refine k _ (.ref p) (K0.Same.tr s1 (K0.Same.tr s06 (K0.Same.tr s7 s8))) ?_
      rw [toldA, c2, c3]
      exact ⟨p, b3, rfl, upd_same, s8 _ _ upd_same⟩
    refine ⟨rfl, _, rfl, if_both (fun c1 => ?_) (fun c1 => ?_)⟩
    case refine_2 =>
      refine if_neg_of rfl (rest H1 K0.Same.rfl' ?_)
      rintro ⟨c, e⟩
      have nw : ¬ w0 = ("clause" : Str) := fun z => of_decide_eq_false c1 (by rw [z])
      unfold toldW at e
      dsimp only at e
      rw [if_neg nw] at e
      split at e <;> cases e
    have w1 : w0 = ("clause" : Str) := by
      have z := of_decide_eq_true c1
      injection z
    refine ⟨_, rfl, t, _, rfl, .inr (SqT.of et), _, _, rfl, rfl, _, rfl, if_both (fun c2 => ?_) (fun c2 => ?_)⟩
    case refine_2 =>
      refine if_neg_of rfl (rest H1 K0.Same.rfl' ?_)
      rintro ⟨c, e⟩
      have z := of_decide_eq_false c2
      rw [List.length_map] at z
      cases r with
      | nil =>
        unfold toldW at e
        dsimp only at e
        rw [if_pos w1] at e
        cases e
      | cons a b =>
        simp only [List.length_cons] at z
        omega
    have c2 := of_decide_eq_true c2
    rw [List.length_map] at c2
    cases r with
    | nil => simp at c2
    | cons t1 cs =>
    have ec2 : cutV ((w0 :: t1 :: cs).map V.str) (some 2) none = cs.map V.str := cutV_drop _ 2
    have part2 : ¬ (HT.sIx ((w0 :: t1 :: cs).map V.str).length 0 (some ((2 : Nat) : Int)) = 0 ∧ HT.sIx ((w0 :: t1 :: cs).map V.str).length ((w0 :: t1 :: cs).map V.str).length none = ((w0 :: t1 :: cs).map V.str).length) := cut_part _ 2 (by decide) (by rw [List.length_map]; exact Nat.succ_le_succ (Nat.succ_le_succ (Nat.zero_le _)))
    have toldC : toldW (w0 :: t1 :: cs) = if (nameS t1 && (cs.all nameS && widB cs.length)) = true then some (.cl (t1, cs)) else none := by
      unfold toldW
      dsimp only
      rw [if_pos w1]
    refine ⟨_, rfl, t, _, _, .str t1, rfl, rfl, SqT.of et, atI_nat (j := 1) rfl, _, rfl, 2, rfl, t, _, rfl, SqT.of et, part2, fun b hb => ?_⟩
    rw [ec2]
    have s2 := K0.Same.new (.tup (cs.map V.str)) hb
    refine ⟨by show 2 ≤ sizeLine; decide, fun p hp => ?_⟩
    have s3 := K0.Same.new (.tup [.str t1, .ref b]) hp
    have eb := s3 _ _ (upd_same (H := H1) (a := b) (o := .tup (cs.map V.str)))
    have lcs : cs.length ≤ 900 := by simp only [List.length_cons] at hl; omega
    have clv := ClV.pair (K := K) (upd_same (H := upd H1 b (.tup (cs.map V.str))) (a := p) (o := .tup [.str t1, .ref b])) (.str t1) (show Sz (.str t1) from Nat.le_trans (hz t1 (List.mem_cons_of_mem _ List.mem_cons_self)).1 (by decide)) (.tup eb) (tu_strs eb (by omega) fun q hq => (hz q (List.mem_cons_of_mem _ (List.mem_cons_of_mem _ hq))).1)
    have e9 : onTup (upd (upd H1 b (.tup (cs.map V.str))) p (.tup [.str t1, .ref b])) (fun ys => widB ys.length) (.ref b) = widB cs.length := by
      simp only [onTup, eb, List.length_map]
    rw [onTup_strs eb, e9] at clv
    refine ⟨_, _, rfl, clv, fun H4 s4 => ⟨_, rfl, ?_⟩⟩
    have s04 := K0.Same.tr s2 (K0.Same.tr s3 s4)
    refine if_both (fun c3 => ?_) (fun c3 => ?_)
    case refine_2 =>
      refine rest H4 s04 ?_
      rintro ⟨c, e⟩
      rw [toldC] at e
      have c3' : (nameS t1 && (cs.all nameS && widB cs.length)) = false := c3
      rw [c3'] at e
      cases e
    refine ⟨_, rfl, t, _, _, .str t1, rfl, rfl, SqT.of (s04 _ _ et), atI_nat (j := 1) rfl, _, rfl, 2, rfl, t, _, rfl, SqT.of (s04 _ _ et), part2, fun b2 hb2 => ?_⟩
    rw [ec2]
    have s5 := K0.Same.new (.tup (cs.map V.str)) hb2
    refine ⟨by show 2 ≤ sizeLine; decide, fun p2 hp2 => ?_⟩
    have s6 := K0.Same.new (.tup [.str t1, .ref b2]) hp2
    refine ⟨by show 2 ≤ sizeLine; decide, fun p3 hp3 => ?_⟩
    have s7 := K0.Same.new (.tup [.str "clause", .ref p2]) hp3
    refine k _ (.ref p3) (K0.Same.tr s1 (K0.Same.tr s04 (K0.Same.tr s5 (K0.Same.tr s6 s7)))) ?_
    have c3' : (nameS t1 && (cs.all nameS && widB cs.length)) = true := c3
    rw [toldC, c3']
    exact ⟨p3, p2, rfl, upd_same, b2, s7 _ _ upd_same, s7 _ _ (s6 _ _ upd_same)⟩
end
end K0

/-! ## R5k -/
set_option maxRecDepth 100000
set_option maxHeartbeats 2000000
namespace K0
open PySem L2 NS RZ
/-! ### names as data -/
theorem nameS_ok {z : Str} (h : nameS z = true) : PyData.strOk z = true := by
  unfold nameS at h
  rw [Bool.and_eq_true] at h
  unfold PyData.strOk
  rw [← Array.all_toList, List.all_eq_true]
  intro c hc
  have q := List.all_eq_true.mp h.2 c hc
  unfold lowC at q
  rw [Bool.and_eq_true] at q
  have := of_decide_eq_true q.2
  exact decide_eq_true (by omega)
theorem layS_strs : ∀ {l : List Str}, (∀ k ∈ l, PyData.strOk k = true) → PyData.canLayAll0 (l.map PyData.str) = true
  | [], _ => rfl
  | a :: l, h => by
    rw [List.map_cons, PyData.canLayAll0, layS_strs fun k hk => h k (List.mem_cons_of_mem _ hk)]
    show (PyData.strOk a && true) = true
    rw [h a List.mem_cons_self]
    rfl
theorem dC_lay {c : CL} (h1 : PyData.strOk c.1 = true) (h2 : ∀ k ∈ c.2, PyData.strOk k = true) : (dC c).canLay0 = true := by
  unfold dC
  simp only [PyData.canLay0, PyData.canLayAll0, h1, layS_strs h2, Bool.and_true]
theorem dCs_lay : ∀ {cs : List CL}, (∀ c ∈ cs, (dC c).canLay0 = true) → PyData.canLayAll0 (cs.map dC) = true
  | [], _ => rfl
  | a :: l, h => by
    rw [List.map_cons, PyData.canLayAll0, dCs_lay fun k hk => h k (List.mem_cons_of_mem _ hk), h a List.mem_cons_self]
    rfl
theorem dC_shaped {c : CL} (h1 : PyData.strOk c.1 = true) (h2 : ∀ k ∈ c.2, PyData.strOk k = true) : SeqAt.shaped (dC c) = true := by
  unfold SeqAt.shaped
  rw [dC_lay h1 h2, dC_depth]
  rfl
theorem dCs_shaped {cs : List CL} (h : ∀ c ∈ cs, (dC c).canLay0 = true) : SeqAt.shaped (.tuple (cs.map dC)) = true := by
  unfold SeqAt.shaped
  have e : (PyData.tuple (cs.map dC)).canLay0 = true := dCs_lay h
  have d : (PyData.tuple (cs.map dC)).depth ≤ 64 := by
    show PyData.depthAll (cs.map dC) + 1 ≤ 64
    have := depth_dCs cs
    omega
  rw [e, decide_eq_true d]
  rfl
theorem dStrs_shaped {l : List Str} (h : ∀ k ∈ l, PyData.strOk k = true) : SeqAt.shaped (.tuple (l.map PyData.str)) = true := by
  unfold SeqAt.shaped
  have e : (PyData.tuple (l.map PyData.str)).canLay0 = true := layS_strs h
  have d : (PyData.tuple (l.map PyData.str)).depth ≤ 64 := by
    show PyData.depthAll (l.map PyData.str) + 1 ≤ 64
    rw [depth_strs]
    decide
  rw [e, decide_eq_true d]
  rfl
theorem WfC.lay {cs : List CL} (g : WfC cs) : ∀ c ∈ cs, (dC c).canLay0 = true := fun c hc => dC_lay (nameS_ok (g.tab c hc)) fun k hk => nameS_ok (g.nam c hc k hk)
theorem eqv_dCs : ∀ (l m : List CL), PyData.eqvAll (l.map dC) (m.map dC) = decide (l = m)
  | [], [] => rfl
  | [], _ :: _ => rfl
  | _ :: _, [] => rfl
  | a :: l, b :: m => by
    rw [List.map_cons, List.map_cons, PyData.eqvAll, eqv_dCs l m, dC_eqv]
    by_cases e : a = b
    · subst e
      simp
    · rw [decide_eq_false e, Bool.false_and]
      exact (decide_eq_false fun h => e (by injection h)).symm
/-! ### what the class's text gives -/
structure TLn (mg : Str → Option Value) : Prop where
  len : mg "len" = none
  dct : mg "dict" = none
  tup : mg "tuple" = none
  itr : mg "iter" = none
  enu : mg "enumerate" = none
  str : mg "str" = none
section
variable {P : Program} {w : World} {K : PySem.W.Frag} {mg : Str → Option Value} {base : Heap} {C : Addr}
theorem scG2 : FnScope ["self"] ["self"] (defScope (sQ 2)) := ⟨rfl, rfl, rfl, by decide +kernel, rfl, by decide +kernel, by decide +kernel⟩
theorem ok_gClauses {f : Addr} {fd : FuncData} (F : Fun K "clauses" "Question.clauses" (sQ 2) f fd) (T : TQu K C) : FnOk P w K mg base CX0 1 f fd ["self"] (getSp C "_clauses") := by
  refine F.ok scG2 (fun vs H Q E h => ?_) (fun cdv A outer s H vs Q E hr h => ?_)
  · obtain ⟨a, dx, fs, v, rfl, _⟩ := h
    rfl
  · obtain ⟨a, dx, fs, v, rfl, ea, l, q⟩ := h
    exact ⟨_, pss_one (ps_ret (pe_fld (pv 0) rfl)), .ref a, rfl, a, C, dx, fs, v, rfl, ea, T.cl, T.n1, l, q⟩
theorem scG3 : FnScope ["self"] ["self"] (defScope (sQ 3)) := ⟨rfl, rfl, rfl, by decide +kernel, rfl, by decide +kernel, by decide +kernel⟩
theorem ok_gAsked {f : Addr} {fd : FuncData} (F : Fun K "asked" "Question.asked" (sQ 3) f fd) (T : TQu K C) : FnOk P w K mg base CX0 1 f fd ["self"] (getSp C "_asked") := by
  refine F.ok scG3 (fun vs H Q E h => ?_) (fun cdv A outer s H vs Q E hr h => ?_)
  · obtain ⟨a, dx, fs, v, rfl, _⟩ := h
    rfl
  · obtain ⟨a, dx, fs, v, rfl, ea, l, q⟩ := h
    exact ⟨_, pss_one (ps_ret (pe_fld (pv 0) rfl)), .ref a, rfl, a, C, dx, fs, v, rfl, ea, T.cl, T.n2, l, q⟩
end
end K0

/-! ## X6 -/
set_option maxRecDepth 100000
set_option maxHeartbeats 4000000
namespace K0
open PySem L2 NS RZ
/-! ### loops over any walk, with the state -/
theorem for_walk {J : It} {n : Nat} {G : Hp → Prop} {Y : Nat → Hp → V → Hp → Prop} (w : Walk J n G Y) {g : TG} {tb : TS} {D : Ends} {σ0 : L2.St} {H0 : Hp} (Pv : Nat → L2.St → Hp → Prop) (h0 : Pv 0 σ0 H0) (hG : ∀ i σ H, i ≤ n → Pv i σ H → G H)
    (hs : ∀ i x σ H H', i < n → Pv i σ H → Y i H x H' → g x σ H' fun σ2 H2 => tb { D with nx := Pv (i + 1), ct := Pv (i + 1), bk := D.nx } σ2 H2) (hd : ∀ σ H, Pv n σ H → D.nx σ H) :
    ∃ W : Nat → Nat → L2.St → Hp → Prop, (∃ m, W 0 m σ0 H0) ∧ ∀ i m σ H, W i m σ H → (J.stop i H ∧ D.nx σ H) ∨ (J.go i H ∧ ∃ N : L2.St → Hp → Prop, (∀ σ' H', N σ' H' → ∃ m', m' < m ∧ W (i + 1) m' σ' H') ∧ ∀ x H', J.yld i H x H' → g x σ H' fun σ2 H2 => tb { D with nx := N, ct := N, bk := D.nx } σ2 H2) := by
  refine ⟨fun i m σ H => m = n - i ∧ i ≤ n ∧ Pv i σ H, ⟨n, by simp, Nat.zero_le _, h0⟩, ?_⟩
  rintro i m σ H ⟨rfl, hi, p⟩
  have q := hG i σ H hi p
  by_cases hlt : i < n
  · exact .inr ⟨w.goes i H hlt q, Pv (i + 1), fun σ' H' p' => ⟨n - (i + 1), by omega, rfl, hlt, p'⟩, fun x H' y => hs i x σ H H' hlt p (w.yields i H x H' hlt q y)⟩
  · have e : i = n := by omega
    subst e
    exact .inl ⟨w.stops H q, hd σ H p⟩
/-! ### clauses, sorted -/
def rowsC : List Addr → List CL → List Row
  | t :: ts, c :: cs => (t, keyC c) :: rowsC ts cs
  | _, _ => []
theorem rowsC_all {H : Hp} : ∀ {ts : List Addr} {cs : List CL}, Cls H ts cs → (rowsC ts cs).map (·.1) = ts ∧ (rowsC ts cs).map (·.2) = cs.map keyC ∧ ∀ m ∈ rowsC ts cs, ∃ c, m.2 = keyC c ∧ ClA H m.1 c
  | _, _, .nil => ⟨rfl, rfl, fun _ h => by cases h⟩
  | _, _, .cons (c := c) h r => by
    obtain ⟨h1, h2, h3⟩ := rowsC_all r
    refine ⟨by rw [rowsC, List.map_cons, h1], by rw [rowsC, List.map_cons, List.map_cons, h2], fun m hm => ?_⟩
    rcases List.mem_cons.mp hm with e | e
    · rw [e]; exact ⟨c, rfl, h⟩
    · exact h3 m e
theorem sorted_cls {H : Hp} {ts : List Addr} {cs : List CL} (h : Cls H ts cs) (nd : cs.Nodup) {M : List Row} (pm : M.Perm (rowsC ts cs)) (pw : M.Pairwise fun m m' => ltK m'.2 m.2 = false) :
    ∃ cs', Cls H (M.map (·.1)) cs' ∧ cs'.Pairwise (fun c c' => ltC c c' = true) ∧ ∀ c, c ∈ cs' ↔ c ∈ cs := by
  obtain ⟨h1, h2, h3⟩ := rowsC_all h
  obtain ⟨cs', c1, c2⟩ := rows_cls M fun m hm => h3 m (pm.mem_iff.mp hm)
  have pk : (cs'.map keyC).Perm (cs.map keyC) := by
    rw [c2, ← h2]
    exact pm.map _
  have mem : ∀ c, c ∈ cs' ↔ c ∈ cs := fun c => by
    have inj : ∀ l : List CL, keyC c ∈ l.map keyC ↔ c ∈ l := fun l => ⟨fun z => by
      obtain ⟨d, hd, e⟩ := List.mem_map.mp z
      rw [← keyC_inj e]
      exact hd, fun z => List.mem_map.mpr ⟨c, z, rfl⟩⟩
    rw [← inj cs', ← inj cs]
    exact pk.mem_iff
  refine ⟨cs', c1, ?_, mem⟩
  have ndk : (cs.map keyC).Nodup := List.pairwise_map.mpr (nd.imp fun {a b} n e => n (keyC_inj e))
  have ndk' : (cs'.map keyC).Nodup := pk.nodup_iff.mpr ndk
  have pw' : (cs'.map keyC).Pairwise fun k k' => ltK k' k = false := by
    rw [c2]
    exact List.pairwise_map.mpr pw
  have both : (cs'.map keyC).Pairwise fun k k' => ltK k k' = true := by
    refine (pw'.and ndk').imp fun {a b} h => ?_
    rcases ltK_tot a b h.2 with z | z
    · exact z
    · rw [h.1] at z; cases z
  exact pair_map both
theorem sorted_len {H : Hp} {ts : List Addr} {cs : List CL} (h : Cls H ts cs) {M : List Row} (pm : M.Perm (rowsC ts cs)) : M.length = cs.length := by
  obtain ⟨h1, _, _⟩ := rowsC_all h
  rw [pm.length_eq, ← h.len, ← congrArg List.length h1, List.length_map]
end K0

/-! ## X7 -/
set_option maxRecDepth 100000
set_option maxHeartbeats 8000000
namespace K0
open PySem L2 NS RZ PySem.KeepX
/-! ### Question.from_lines -/
def tl (x : V) : Option LT := toldW (wds (lnO x))
def AskA (H : Hp) (la : Addr) : Option (List Str) → Prop
  | none => H la = some (.lst [])
  | some l => ∃ u, H la = some (.lst [.ref u]) ∧ H u = some (.tup (l.map V.str))
structure PoolOk (ls : List (Option LT)) : Prop where
  ex : ∃ pool : List Str, pool.length < 64 ∧ ∀ c, some (LT.cl c) ∈ ls → ∀ k ∈ c.2, k ∈ pool
def Then (K : PySem.W.Frag) (C CP CQ : Addr) (H : Hp) (Q : VK) (E : XK) : Res → Prop
  | .ix n => ∀ H' d, Same H H' → H d = none → H' d = some (.xd [("number", .int n)]) → E (.ref CP) (some d) H'
  | .qu => ∀ H', Same H H' → E (.ref CQ) none H'
  | .pl q => ∀ H' p, Same H H' → H p = none → QuO K C H' p q → WfQ q → Q (.ref p) H'
def spFrom (K : PySem.W.Frag) (C CP CQ : Addr) : Sp := fun vs H Q E => ∃ xs, vs = .ref C :: xs ∧ xs.length ≤ 9 ∧ (∀ x ∈ xs, Da H x ∧ ShT x) ∧ PoolOk (xs.map tl) ∧ ∀ r, ResR (xs.map tl) r → Then K C CP CQ H Q E r
def spFromB (K : PySem.W.Frag) (C CP CQ : Addr) : Sp := fun vs H Q E => ∃ p xs, vs = [.ref C, .ref p] ∧ H p = some (.tup xs) ∧ xs.length ≤ 9 ∧ (∀ x ∈ xs, Da H x ∧ ShT x) ∧ PoolOk (xs.map tl) ∧ ∀ r, ResR (xs.map tl) r → Then K C CP CQ H Q E r
theorem Then.same {K : PySem.W.Frag} {C CP CQ : Addr} {H H' : Hp} {Q : VK} {E : XK} {r : Res} (h : Then K C CP CQ H Q E r) (s : Same H H') : Then K C CP CQ H' Q E r := by
  cases r with
  | ix n => exact fun H2 d s2 hd e => h H2 d (K0.Same.tr s s2) (none_back s hd) e
  | qu => exact fun H2 s2 => h H2 (K0.Same.tr s s2)
  | pl q => exact fun H2 p s2 hp a b => h H2 p (K0.Same.tr s s2) (none_back s hp) a b
theorem dCs_shapedL {cs : List CL} (h : ∀ c ∈ cs, (dC c).canLay0 = true) : SeqAt.shaped (.list (cs.map dC)) = true := by
  unfold SeqAt.shaped
  have e : (PyData.list (cs.map dC)).canLay0 = true := dCs_lay h
  have d : (PyData.list (cs.map dC)).depth ≤ 64 := by
    show PyData.depthAll (cs.map dC) + 1 ≤ 64
    have := depth_dCs cs
    omega
  rw [e, decide_eq_true d]
  rfl
theorem any_dC (c : CL) (cs : List CL) : ((cs.map dC).any fun z => PyData.eqv z (dC c)) = decide (c ∈ cs) := by
  rw [Bool.eq_iff_iff, List.any_eq_true, decide_eq_true_eq]
  constructor
  · rintro ⟨z, hz, e⟩
    obtain ⟨d, hd, rfl⟩ := List.mem_map.mp hz
    rw [dC_eqv, decide_eq_true_eq] at e
    rw [← e]
    exact hd
  · intro h
    exact ⟨dC c, List.mem_map.mpr ⟨c, h, rfl⟩, by rw [dC_eqv]; exact decide_eq_true rfl⟩
theorem any_as (l : List Str) (cs : List CL) : ((cs.map dC).any fun z => PyData.eqv z (.tuple (l.map PyData.str))) = false := by
  rw [Bool.eq_false_iff]
  intro h
  obtain ⟨z, hz, e⟩ := List.any_eq_true.mp h
  obtain ⟨d, hd, rfl⟩ := List.mem_map.mp hz
  unfold dC at e
  match l, e with
  | [], e => cases e
  | [a], e => simp [PyData.eqv, PyData.eqvAll] at e
  | [a, b], e => simp [PyData.eqv, PyData.eqvAll] at e
  | a :: b :: c :: r, e => simp [PyData.eqv, PyData.eqvAll] at e
theorem AskA.off {H : Hp} {la p : Addr} {o : Option (List Str)} {x : HO} (h : AskA H la o) (n : la ≠ p) (hp : ∀ xs, H p ≠ some (.tup xs)) : AskA (upd H p x) la o := by
  cases o with
  | none => show upd H p x la = _; rw [upd_ne n]; exact h
  | some l =>
    obtain ⟨u, h1, h2⟩ := h
    exact ⟨u, by rw [upd_ne n]; exact h1, by rw [upd_ne fun z => hp _ (z ▸ h2)]; exact h2⟩
theorem AskA.same {H H' : Hp} {la : Addr} {o : Option (List Str)} (h : AskA H la o) (s : Same H H') : AskA H' la o := by
  cases o with
  | none => exact s _ _ h
  | some l =>
    obtain ⟨u, h1, h2⟩ := h
    exact ⟨u, s _ _ h1, s _ _ h2⟩
def askL : Option (List Str) → List V → Prop
  | none, xs => xs = []
  | some _, xs => ∃ u, xs = [V.ref u]
theorem AskA.lst {H : Hp} {la : Addr} {o : Option (List Str)} (h : AskA H la o) : ∃ xs, H la = some (.lst xs) ∧ (!xs.isEmpty) = o.isSome := by
  cases o with
  | none => exact ⟨[], h, rfl⟩
  | some l =>
    obtain ⟨u, h1, _⟩ := h
    exact ⟨_, h1, rfl⟩
/-- how far the lines are read -/
def FromI (C p lc la : Addr) (H : Hp) (L : List (Option LT)) (i : Nat) (σ : L2.St) (H' : Hp) : Prop := ∃ (v4 v5 v6 : Option V) (ts : List Addr) (s : FS), σ = [some (.ref C), some (.ref p), some (.ref lc), some (.ref la), v4, v5, v6] ∧ Same H H' ∧ H' lc = some (.lst (ts.map V.ref)) ∧ Cls H' ts s.1 ∧
  AskA H' la s.2 ∧ runF 0 ([], none) L = runF i s (L.drop i) ∧ PreF s ∧ s.1.length ≤ i ∧ ∀ c ∈ s.1, some (.cl c) ∈ L
section
variable {P : Program} {w : World} {K : PySem.W.Frag} {mg : Str → Option Value} {base : Heap} {C CP CQ fT fI : Addr} {fdT fdI : FuncData}
abbrev nFrom : List Str := ["cls", "lines", "clauses", "asked", "at", "line", "told"]
theorem scFrom : FnScope nFrom ["cls", "lines"] (defScope (sQ 1)) := ⟨rfl, rfl, rfl, by decide +kernel, rfl, by decide +kernel, by decide +kernel⟩
structure TF (mg : Str → Option Value) : Prop where
  enu : mg "enumerate" = none
  srt : mg "sorted" = none
  tup : mg "tuple" = none
theorem cxNew {P : Program} {w : World} : CXNew (L2.CX P w) := fun outer s H h2 p rest E e s' kp hp hn c => StX.cxUp outer s H { s with heap := h2 } _ E e s' (Un.laid kp hp hn) kp rfl c
theorem bind_from {kV doc pm cdv ct : Value} {an : Option Addr} : ∀ (u : Value) (rest : List Value), rest.length ≤ 9 → bindArgs (PySem.W.fnOf "from_lines" "Question.from_lines" (defArgs (sQ 1)) (defBody (sQ 1)) (defScope (sQ 1)) Value.none kV doc pm an cdv ct) ⟨u :: rest, []⟩ = (newTuple rest >>= fun t => pure [(("cls" : Str), u), (("lines" : Str), t)])
  | u, [], _ => by first | rfl | with_unfolding_all rfl | kernel_rfl
  | u, [a], _ => by first | rfl | with_unfolding_all rfl | kernel_rfl
  | u, [a, b], _ => by first | rfl | with_unfolding_all rfl | kernel_rfl
  | u, [a, b, c], _ => by first | rfl | with_unfolding_all rfl | kernel_rfl
  | u, [a, b, c, d], _ => by first | rfl | with_unfolding_all rfl | kernel_rfl
  | u, [a, b, c, d, e], _ => by first | rfl | with_unfolding_all rfl | kernel_rfl
  | u, [a, b, c, d, e, f], _ => by first | rfl | with_unfolding_all rfl | kernel_rfl
  | u, [a, b, c, d, e, f, g], _ => by first | rfl | with_unfolding_all rfl | kernel_rfl
  | u, [a, b, c, d, e, f, g, h], _ => by first | rfl | with_unfolding_all rfl | kernel_rfl
  | u, [a, b, c, d, e, f, g, h, i], _ => by first | rfl | with_unfolding_all rfl | kernel_rfl
  | _, _ :: _ :: _ :: _ :: _ :: _ :: _ :: _ :: _ :: _ :: r, h => absurd h (by simp only [List.length_cons]; omega)
theorem fn_from {f : Addr} {fd : FuncData} (F : Fun K "from_lines" "Question.from_lines" (sQ 1) f fd) (T : TF mg) {bmB : List Value} {newId : String} (TP : Cls0 K mg "ParseError" CP "number" bmB newId) (mk : Makes K P w CP "number") (M : Mk K C fI)
    (eT : Gl K mg "_clause_or_asked" fT) (GT : FnOk P w K mg base CX0 4 fT fdT ["line"] spClAs) (bT : Binds K fdT ["line"] [])
    (GI : FnOk P w K mg base (L2.CX P w) 5 fI fdI ["self", "clauses", "asked"] (spInit2 K C CQ)) (bI : Binds K fdI ["self", "clauses", "asked"] []) :
    FnR P w K mg base (L2.CX P w) 8 f (spFrom K C CP CQ) := by
  obtain ⟨oc, od, kV, doc, pm, an, cdv, ct, osl, rfl, lk, hcd⟩ := F.ex
  refine FnR.imp (fn_ofV (pa := "cls") (pv := "lines") (N := nFrom) (nmax := 9) (sp := spFromB K C CP CQ) lk hcd scFrom (by rw [sizeLine_eq]; decide) bind_from cxNew fun A outer s H vs Q E hr h => ?_) fun vs H Q E h => ?_
  case refine_2 =>
    obtain ⟨xs, rfl, n, hx, po, k⟩ := h
    refine ⟨.ref C, xs, rfl, n, fun p hp => ?_⟩
    have s1 := K0.Same.new (.tup xs) hp
    exact ⟨p, xs, rfl, upd_same, n, fun x m => ⟨(hx x m).1.same s1, (hx x m).2⟩, po, fun r hr => (k r hr).same s1⟩
  obtain ⟨p, xs, rfl, hp, n9, hx, po, k⟩ := h
  have hr4 : Room 4 _ := hr.mono (by decide)
  have hr6 : Room 6 _ := hr.mono (by decide)
  have hu : ∀ {A : Around}, Room 0 A → A.units + 65 < cLine := fun r => by have := r.un; omega
  have hu' : ∀ {A : Around}, Room 0 A → A.units + 64 < cLine := fun r => by have := r.un; omega
  have hr0 : Room 0 _ := hr.mono (by decide)
  refine ⟨_, pss_cons (ps_set (i := 2) scFrom.nd rfl (Or.inl rfl) (pe_lst pa_nil))
    (pss_cons (ps_set (i := 3) scFrom.nd rfl (Or.inl rfl) (pe_lst pa_nil))
    (pss_cons (ps_for (passes_of rfl) rfl (pi_enumT (by rfl) T.enu (pa_cons (pv 1) pa_nil)) (pg_tup rfl (pgs_cons (pg_name (i := 4) scFrom.nd rfl (Or.inl rfl)) (pgs_cons (pg_name (i := 5) scFrom.nd rfl (Or.inl rfl)) pgs_nil)))
      (pss_cons (ps_set (i := 6) scFrom.nd rfl (Or.inl rfl) (pe_call (E := E0) GT hr4 (by rfl) eT.g eT.k bT .nil pass0 (pa_cons (pv 5) pa_nil)))
      (pss_cons (ps_if (PW.pt (pw_or (pt_cmpR op_isN (pv 6) pe_non (nomark _)) (pw_or (pt_cmpR (op_inD (hu hr0)) (pe_ix ix_tup (pv 6) pe_int (fun _ _ => rfl)) (pv 2) rfl)
            (pw_or1 (PW.pt (pw_and (pt_cmpR op_eq (pe_ix ix_tup (pv 6) pe_int (fun _ _ => rfl)) pe_str (nomark _)) (pw_and1 (pt_truth (pv 3) (fun _ => rfl)))))))))
          (pss_one (ps_raiseKeep rfl TP mk hr (takes_of rfl rfl rfl rfl) (pa_cons (pv 4) pa_nil))) pss_nil)
      (pss_one (ps_if (pt_cmpR op_eq (pe_ix ix_tup (pv 6) pe_int (fun _ _ => rfl)) pe_str (nomark _))
        (pss_one (ps_expr (pe_bm PySem.F.plainAttrs_list PySem.F.slot_list_append PySem.F.type_list_append mt_append (pv 3) (pa_cons (pe_ix ix_tup (pv 6) pe_int (fun _ _ => rfl)) pa_nil))))
        (pss_one (ps_expr (pe_bm PySem.F.plainAttrs_list PySem.F.slot_list_append PySem.F.type_list_append mt_append (pv 2) (pa_cons (pe_ix ix_tup (pv 6) pe_int (fun _ _ => rfl)) pa_nil)))))))))
    (pss_one (ps_ret (pe_makeL (i := 0) M GI hr6 rfl (Or.inl rfl) bI .nil (passes_call (takes_of rfl rfl rfl rfl) fun _ _ _ _ h => h)
      (pa_cons (pe_callTy (T := "tuple") call_tuple_of (by rfl) T.tup (by decide +kernel) (pa_cons (pe_callB (cr_sortList (hu' hr0)) (by rfl) T.srt (by decide +kernel) (pa_cons (pv 2) pa_nil)) pa_nil))
        (pa_cons (pe_ifExp (pt_truth (pv 3) (fun _ => rfl)) (pe_ix ix_list (pv 3) pe_int (fun _ _ => rfl)) (pe_tup pa_nil)) pa_nil))))))), ?_⟩
  refine ⟨by show 0 ≤ sizeLine; decide, fun lc hlc => ⟨by show 0 ≤ sizeLine; decide, fun la hla => ?_⟩⟩
  have nla : la ≠ lc := fun z => by rw [z, upd_same] at hla; cases hla
  have hla0 : H la = none := by rw [upd_ne nla] at hla; exact hla
  have s0 : Same H (upd (upd H lc (.lst [])) la (.lst [])) := K0.Same.tr (K0.Same.new _ hlc) (K0.Same.new _ hla)
  have nx : ∀ i, i < xs.length → (xs.map tl).drop i = tl (xs.getD i .non) :: (xs.map tl).drop (i + 1) := fun i hi => by
    have hi' : i < (xs.map tl).length := by rw [List.length_map]; exact hi
    rw [List.drop_eq_getElem_cons hi', List.getElem_map]
    simp [List.getD, hi]
  refine ⟨_, rfl, p, xs, rfl, SqT.of (s0 _ _ hp), for_walk (walk_enumT (K := K) (a := p) (xs := xs)) (FromI C p lc la H (xs.map tl)) ?_ ?_ ?_ ?_⟩
  · exact ⟨none, none, none, [], ([], none), rfl, s0, by rw [upd_ne (Ne.symm nla)]; exact upd_same, .nil, upd_same, rfl, PreF.nil, Nat.le_refl _, fun c h => by cases h⟩
  · rintro i σ H' _ ⟨v4, v5, v6, ts, s, _, sm, _⟩
    exact SqT.of (sm _ _ hp)
  · rintro i x σ H1 H2 hi ⟨v4, v5, v6, ts, s, rfl, sm, elc, hc, hask, run, pre, len, mem⟩ ⟨T, y, z, rfl, hT, rfl, hy, hz⟩
    have ez : xs.getD i .non = z := by simp [List.getD, hz]
    have zm := List.mem_of_getElem? hz
    obtain rfl : V.int (i : Nat) = y := Option.some.inj hy
    have sT := K0.Same.new (.tup [.int (i : Nat), z]) hT
    refine ⟨T, _, rfl, SqT.of upd_same, rfl, _, _, rfl, _, _, rfl, rfl, ?_⟩
    have hz2 := hx z zm
    refine ⟨_, rfl, z, rfl, hz2.1.same (K0.Same.tr sm sT), hz2.2, fun H3 r s3 toA => ?_⟩
    have st := K0.Same.tr sT s3
    have sm3 := K0.Same.tr sm st
    have elc3 := st _ _ elc
    have hc3 := hc.same st
    have hask3 := hask.same st
    have wl : (wds (lnO z)).length ≤ 1000 := Nat.le_trans (wds_len hz2.2) (by decide)
    have run1 := nx i hi
    rw [ez] at run1
    rw [run1] at run
    have notup : ∀ ys, H3 lc ≠ some (.tup ys) := fun ys e => by rw [elc3] at e; cases e
    have notupA : ∀ ys, H3 la ≠ some (.tup ys) := fun ys e => by
      obtain ⟨zs, e2, _⟩ := hask3.lst
      rw [e2] at e; cases e
    clear hc hask
    /- what is raised -/
    have bad : stepF s (tl z) = none → ∀ d, H3 d = none → E (.ref CP) (some d) (upd H3 d (.xd [("number", .int (i : Nat))])) := fun h d hd => by
      rw [runF_none h] at run
      exact k (.ix i) (ResR.ix run) _ d (K0.Same.tr sm3 (K0.Same.new _ hd)) (none_back sm3 hd) upd_same
    refine ⟨r, rfl, rfl, _, rfl, ?_⟩
    have toA' : ToA H3 r (tl z) := toA
    cases et : tl z with
    | none =>
      rw [et] at toA' bad
      obtain rfl : r = .non := toA'
      exact if_pos_of rfl ⟨_, rfl, _, rfl, fun d hd => bad rfl d hd⟩
    | some tt =>
      rw [et] at toA' bad run
      have lay : ∀ c ∈ s.1, (dC c).canLay0 = true := fun c hc => dC_lay (nameS_ok (pre.tab c hc)) fun k hk => nameS_ok (pre.nam c hc k hk)
      have dpl : Dp K H3 (.ref lc) (.list (s.1.map dC)) := .lst (SqL.of elc3) hc3.dp
      cases tt with
      | cl c =>
        obtain ⟨t0, u, rfl, e1, hA⟩ := toA'
        have tc := toldW_cl (show toldW (wds (lnO z)) = some (.cl c) from et)
        refine if_neg_of rfl ?_
        refine ⟨_, rfl, t0, _, _, .ref u, rfl, rfl, SqT.of e1, atI_nat (j := 1) rfl, _, rfl, dC c, s.1.map dC, hA.dp, dpl, dC_shaped (nameS_ok tc.1) (fun k hk => nameS_ok (tc.2.1 k hk)), dCs_shapedL lay, _, rfl, ?_⟩
        rw [any_dC]
        refine if_both (fun c1 => ?_) (fun c1 => ?_)
        · have c1 := of_decide_eq_true c1
          exact if_pos_of rfl ⟨_, rfl, _, rfl, fun d hd => bad (by show (if c ∈ s.1 then none else _) = none; rw [if_pos c1]) d hd⟩
        · have c1 := of_decide_eq_false c1
          refine ⟨_, rfl, t0, _, _, .str "clause", rfl, rfl, SqT.of e1, atI_nat (j := 0) rfl, rfl, _, rfl, if_neg_of (decide_eq_false fun z => ne_ca (by injection z)) (if_neg_of rfl ?_)⟩
          have es : stepF s (some (.cl c)) = some (s.1 ++ [c], s.2) := by show (if c ∈ s.1 then none else _) = _; rw [if_neg c1]
          refine ⟨_, rfl, t0, _, _, .str "clause", rfl, rfl, SqT.of e1, atI_nat (j := 0) rfl, rfl, _, rfl, if_neg_of (decide_eq_false fun z => ne_ca (by injection z)) ?_⟩
          refine ⟨_, rfl, .inl ⟨rfl, _, SqL.of elc3⟩, _, rfl, t0, _, _, .ref u, rfl, rfl, SqT.of e1, atI_nat (j := 1) rfl, lc, _, .ref u, rfl, rfl, elc3, by rw [List.length_map, hc3.len, sizeLine_eq]; omega, ?_⟩
          refine ⟨_, _, _, ts ++ [u], (s.1 ++ [c], s.2), rfl, fun b o e => ?_, ?_, Cls.snoc (hA.off notup) (hc3.off notup), hask3.off nla notup, ?_, pre.step wl (by rw [show toldW (wds (lnO z)) = some (.cl c) from et]; exact es), ?_, ?_⟩
          · rw [upd_ne (ne_of_none e hlc)]
            exact sm3 _ _ e
          · rw [upd_same, List.map_append]
            rfl
          · rw [run, runF_some es]
          · rw [List.length_append]
            exact Nat.succ_le_succ len
          · intro c' hc'
            rcases List.mem_append.mp hc' with m | m
            · exact mem c' m
            · rw [List.mem_singleton.mp m, ← et]
              exact List.mem_map.mpr ⟨z, zm, rfl⟩
      | as l =>
        obtain ⟨t0, u, rfl, e1, e2⟩ := toA'
        have tc := toldW_as (show toldW (wds (lnO z)) = some (.as l) from et)
        refine if_neg_of rfl ?_
        refine ⟨_, rfl, t0, _, _, .ref u, rfl, rfl, SqT.of e1, atI_nat (j := 1) rfl, _, rfl, .tuple (l.map PyData.str), s.1.map dC, .tup (SqT.of e2) (dpAll_strs l), dpl, dStrs_shaped (fun k hk => nameS_ok (tc.2.1 k hk)), dCs_shapedL lay, _, rfl, ?_⟩
        rw [any_as]
        refine if_neg_of rfl ?_
        refine ⟨_, rfl, t0, _, _, .str "asked", rfl, rfl, SqT.of e1, atI_nat (j := 0) rfl, rfl, _, rfl, if_pos_of (decide_eq_true rfl) ?_⟩
        obtain ⟨ys, ey, hy0⟩ := hask3.lst
        refine ⟨_, rfl, _, .inl ⟨ys, SqL.of ey, rfl⟩, ?_⟩
        rw [hy0]
        cases ea : s.2 with
        | some l0 =>
          exact if_pos_of rfl ⟨_, rfl, _, rfl, fun d hd => bad (by show (if s.2.isSome = true then none else _) = none; rw [ea]; rfl) d hd⟩
        | none =>
          refine if_neg_of rfl ?_
          have es : stepF s (some (.as l)) = some (s.1, some l) := by show (if s.2.isSome = true then none else _) = _; rw [ea]; rfl
          refine ⟨_, rfl, t0, _, _, .str "asked", rfl, rfl, SqT.of e1, atI_nat (j := 0) rfl, rfl, _, rfl, if_pos_of (decide_eq_true rfl) ?_⟩
          rw [ea] at hask3
          have ela : H3 la = some (.lst []) := hask3
          refine ⟨_, rfl, .inl ⟨rfl, _, SqL.of ela⟩, _, rfl, t0, _, _, .ref u, rfl, rfl, SqT.of e1, atI_nat (j := 1) rfl, la, _, .ref u, rfl, rfl, ela, by show 0 < sizeLine; rw [sizeLine_eq]; decide, ?_⟩
          refine ⟨_, _, _, ts, (s.1, some l), rfl, fun b o e => ?_, ?_, hc3.off notupA, ⟨u, upd_same, ?_⟩, ?_, pre.step wl (by rw [show toldW (wds (lnO z)) = some (.as l) from et]; exact es), Nat.le_succ_of_le len, mem⟩
          · rw [upd_ne (ne_of_none e hla0)]
            exact sm3 _ _ e
          · rw [upd_ne (Ne.symm nla)]
            exact elc3
          · rw [upd_ne fun z => notupA _ (z ▸ e2)]
            exact e2
          · rw [run, runF_some es]
  · rintro σ H1 ⟨v4, v5, v6, ts, s, rfl, sm, elc, hc, hask, run, pre, len, mem⟩
    have run' : runF 0 ([], none) (xs.map tl) = .inr s := by
      rw [run, List.drop_of_length_le (by rw [List.length_map]; exact Nat.le_refl _)]
      rfl
    obtain ⟨r1, r2, r3⟩ := rowsC_all hc
    refine ⟨rfl, _, rfl, lc, rowsC ts s.1, 2, rfl, ?_, ?_, lined_cls fun m hm => (r3 m hm).imp fun c h => h.1, fun M d pm pw hd => ?_⟩
    · have e : (rowsC ts s.1).map (fun m => V.ref m.1) = ts.map V.ref := by
        have z := congrArg (List.map V.ref) r1
        rw [List.map_map] at z
        exact z
      rw [e]
      exact SqL.of elc
    · intro m hm
      obtain ⟨c, e, hA⟩ := r3 m hm
      have z := hA.kr (K := K)
      rw [← e] at z
      exact z
    obtain ⟨cs', hc', up, mm⟩ := sorted_cls hc pre.dif pm pw
    have ml := sorted_len hc pm
    have eM : M.map (fun m => V.ref m.1) = (M.map (·.1)).map V.ref := by rw [List.map_map]; rfl
    rw [eM]
    have lt : (M.map (·.1)).length = s.1.length := by rw [List.length_map]; exact ml
    generalize M.map (·.1) = ts' at hc' lt ⊢
    have lcs : cs'.length = s.1.length := by rw [← hc'.len]; exact lt
    have sd := K0.Same.new (.lst (ts'.map V.ref)) hd
    refine ⟨d, _, rfl, .inl ⟨SqL.of upd_same, fun tc htc => ?_⟩⟩
    have st := K0.Same.new (.tup (ts'.map V.ref)) htc
    have s2 := K0.Same.tr sd st
    have pq : PreQ ⟨cs', s.2.getD []⟩ := by
      obtain ⟨pool, p1, p2⟩ := po.ex
      have each : ∀ {q : CL → Prop}, (∀ c ∈ s.1, q c) → ∀ c ∈ cs', q c := fun h c m => h c ((mm c).mp m)
      refine ⟨⟨⟨by rw [lcs]; omega, each fun c m => (pre.wide c m).2, pool, p1, fun k hk => ?_⟩, each pre.tab, each pre.nam, each fun c m => (pre.wide c m).1, up⟩, ?_, ?_, ?_⟩
      · obtain ⟨c, hc, h⟩ := colsIn_mem.mp hk
        exact p2 c (mem c ((mm c).mp hc)) k h
      all_goals
        cases ea : s.2 with
        | none => first | exact List.nodup_nil | exact (fun _ h => by cases h) | exact Nat.zero_le _
        | some l =>
          obtain ⟨a1, a2, a3⟩ := pre.as_ l ea
          first | exact a1 | exact a2 | exact a3
    have fin : ∀ H3 b, Same H1 H3 → H3 tc = some (.tup (ts'.map V.ref)) → H3 b = some (.tup ((s.2.getD []).map V.str)) →
        ∀ x dx, H3 x = none → H3 dx = none → dx ≠ x → spInit2 K C CQ (.ref x :: ([.ref tc, .ref b] ++ [])) (upd (upd H3 dx (.own x)) x (.ins C dx [])) (fun v H2 => v = .non ∧ Q (.ref x) H2) E := fun H3 b s3 etc eb x dx nx ndx nex => by
      have s4 : Same H3 (upd (upd H3 dx (.own x)) x (.ins C dx [])) := fun c o e => by
        rw [upd_ne (ne_of_none e nx), upd_ne (ne_of_none e ndx)]
        exact e
      have s14 := K0.Same.tr s3 s4
      refine ⟨x, dx, tc, b, ts', ⟨cs', s.2.getD []⟩, rfl, upd_same, SqT.of (s4 _ _ etc), hc'.same s14, s4 _ _ eb, pq, fun wf H' tc' ta to td ns e U kd => ⟨rfl, ?_⟩, fun nwf H' s' => ?_⟩
      · have sx : Same H3 H' := fun c o e => by
          have n1 := ne_of_none e nx
          refine kd c o n1 ?_
          rw [upd_ne n1, upd_ne (ne_of_none e ndx)]
          exact e
        exact k (.pl ⟨cs', s.2.getD []⟩) (ResR.pl run' up mm wf) H' x (K0.Same.tr sm (K0.Same.tr s3 sx)) (none_back sm (none_back s3 nx)) ⟨tc', ta, to, td, ts', ns, U⟩ wf
      · exact k .qu (ResR.qu run' up mm nwf) H' (K0.Same.tr sm (K0.Same.tr s14 s'))
    obtain ⟨ys, ey, hy0⟩ := (hask.same s2).lst
    refine ⟨_, rfl, _, .inl ⟨ys, SqL.of ey, rfl⟩, ?_⟩
    rw [hy0]
    have hask2 := hask.same s2
    cases ea : s.2 with
    | some l =>
      rw [ea] at hask2 fin
      obtain ⟨u, e1, e2⟩ := hask2
      refine if_pos_of rfl ⟨_, rfl, la, _, _, .ref u, rfl, rfl, SqL.of e1, atI_nat (j := 0) rfl, ?_⟩
      exact fin _ u s2 upd_same e2
    | none =>
      rw [ea] at fin
      refine if_neg_of rfl ⟨by show 0 ≤ sizeLine; decide, fun b hb => ?_⟩
      have sb := K0.Same.new (.tup []) hb
      exact fin _ b (K0.Same.tr s2 sb) (sb _ _ upd_same) upd_same
end
end K0

/-! ## X0 -/
set_option maxRecDepth 100000
set_option maxHeartbeats 2000000
namespace K0
open PySem L2
/-- a comprehension that sieves, leaving all that is tracked -/
theorem lc_sieve {J : It} {n : Nat} {G : Hp → Prop} {Y : Nat → Hp → V → Hp → Prop} (w : Walk J n G Y) {g : TG} {tt : TT} {te : TE} {vs : List Nat} {σ : St} {H1 : Hp} {D : Addr} {Qd : Hp → Prop} (f : Nat → V) (keep : Nat → Bool)
    (hn : n < sizeLine) (hD : H1 D = none) (hG : ∀ H, Same H1 H → G H)
    (hs : ∀ i x H H', i < n → Same H1 H → Y i H x H' → g x (wipe σ vs) H' fun σ2 H2 => wipe σ2 vs = wipe σ vs ∧ (∀ R : Bool → Hp → Prop, (∀ H3, Same H H3 → R (keep i) H3) → tt σ2 H2 R) ∧ (∀ H3 (Q : V → Hp → Prop), Same H H3 → (∀ H4, Same H3 H4 → Q (f i) H4) → te σ2 H3 Q))
    (gm : ∀ x σ H (P R : St → Hp → Prop), (∀ σ2 H2, P σ2 H2 → R σ2 H2) → g x σ H P → g x σ H R)
    (hd : ∀ H, Same H1 H → H D = some (.lst (((List.range n).filter keep).map f)) → Qd H) :
    ∃ W : Nat → Nat → Hp → Prop, (∃ m, W 0 m (upd H1 D (.lst []))) ∧ ∀ i m H, W i m H →
      (J.stop i H ∧ Qd H) ∨ (J.go i H ∧ ∃ Nx : Hp → Prop, (∀ H', Nx H' → ∃ m', m' < m ∧ W (i + 1) m' H') ∧ ∀ x H', J.yld i H x H' → g x (wipe σ vs) H' fun σ2 H2 => wipe σ2 vs = wipe σ vs ∧ tt σ2 H2 fun b H3 =>
        if b = true then te σ2 H3 fun y H4 => ∃ acc, H4 D = some (.lst acc) ∧ acc.length < sizeLine ∧ Nx (upd H4 D (.lst (acc ++ [y]))) else Nx H3) := by
  refine lc_it w (fun i H => Same H1 H ∧ H D = some (.lst (((List.range i).filter keep).map f))) ⟨K0.Same.new _ hD, upd_same⟩ (fun i H _ p => hG H p.1) (fun i x H H' hi p y => ?_) (fun H p => hd H p.1 p.2)
  refine gm _ _ _ _ _ (fun σ2 H2 q => ⟨q.1, ?_⟩) (hs i x H H' hi p.1 y)
  obtain ⟨_, q2, q3⟩ := q
  refine q2 _ fun H3 s3 => ?_
  have e : ((List.range (i + 1)).filter keep).map f = ((List.range i).filter keep).map f ++ (if keep i = true then [f i] else []) := by
    rw [List.range_succ, List.filter_append, List.map_append]
    by_cases c : keep i = true
    · simp [List.filter, c]
    · simp [List.filter, Bool.eq_false_iff.mpr c]
  by_cases c : keep i = true
  · rw [if_pos c] at e ⊢
    refine q3 H3 _ s3 fun H4 s4 => ⟨_, s4 _ _ (s3 _ _ p.2), ?_, ?_, ?_⟩
    · rw [List.length_map]
      exact Nat.lt_of_le_of_lt (List.length_filter_le _ _) (by rw [List.length_range]; exact Nat.lt_trans hi hn)
    · exact fun b o eb => by rw [upd_ne (ne_of_none eb hD)]; exact s4 _ _ (s3 _ _ (p.1 _ _ eb))
    · rw [upd_same, e]
  · rw [if_neg c] at e ⊢
    rw [List.append_nil] at e
    exact ⟨K0.Same.tr p.1 s3, by rw [e]; exact s3 _ _ p.2⟩
def alpha : Str := "abcdefghijklmnopqrstuvwxyz"
theorem alpha_mem (c : Nat) : decide (c ∈ alpha.cps.toList) = lowC c := by
  have e : alpha.cps.toList = (List.range 26).map (· + 97) := by decide
  rw [e]
  unfold lowC
  by_cases h : 97 ≤ c ∧ c ≤ 122
  · rw [decide_eq_true h.1, decide_eq_true h.2]
    refine decide_eq_true (List.mem_map.mpr ⟨c - 97, List.mem_range.mpr (by omega), by omega⟩)
  · have h2 : (decide (97 ≤ c) && decide (c ≤ 122)) = false := by
      by_cases h3 : 97 ≤ c
      · rw [decide_eq_false (show ¬ c ≤ 122 from fun z => h ⟨h3, z⟩), Bool.and_false]
      · rw [decide_eq_false h3, Bool.false_and]
    rw [h2]
    refine decide_eq_false fun z => ?_
    obtain ⟨j, hj, e2⟩ := List.mem_map.mp z
    have := List.mem_range.mp hj
    exact h ⟨by omega, by omega⟩
theorem filter_none {n : Nat} {keep : Nat → Bool} {p : Nat → Bool} (h : ∀ i, i < n → keep i = !p i) : (List.range n).filter keep = [] ↔ ((List.range n).map p).all id = true := by
  rw [List.filter_eq_nil_iff, List.all_map, List.all_eq_true]
  refine forall_congr' fun i => ?_
  constructor
  · intro z hi
    have := z hi
    rw [h i (List.mem_range.mp hi)] at this
    show p i = true
    cases q : p i with
    | true => rfl
    | false => rw [q] at this; exact absurd rfl this
  · intro z hi
    have q : p i = true := z hi
    rw [h i (List.mem_range.mp hi), q]
    decide
/-- a list of data beside the empty list -/
theorem eqv_nil (ds : List PyData) : PyData.eqv (.list ds) (.list []) = ds.isEmpty := by
  cases ds with
  | nil => rfl
  | cons d r => rfl
theorem lay_strsO : ∀ (zs : List Str), (∀ z ∈ zs, okS z) → PyData.canLayAll0 (zs.map PyData.str) = true ∧ PyData.depthAll (zs.map PyData.str) = 0
  | [], _ => ⟨rfl, rfl⟩
  | z :: r, h => by
    obtain ⟨h1, h2⟩ := lay_strsO r fun y hy => h y (List.mem_cons_of_mem _ hy)
    have hz : PyData.strOk z = true := by
      unfold PyData.strOk
      rw [Array.all_eq_true']
      intro c hc
      exact decide_eq_true (h z List.mem_cons_self c (by simpa using hc))
    constructor
    · show (PyData.canLay0 (.str z) && PyData.canLayAll0 (r.map PyData.str)) = true
      rw [h1, Bool.and_true]
      exact hz
    · show max (PyData.depth (.str z)) (PyData.depthAll (r.map PyData.str)) = 0
      rw [h2]
      rfl
theorem shaped_strsO {zs : List Str} (h : ∀ z ∈ zs, okS z) : PySem.SeqAt.shaped (.list (zs.map PyData.str)) = true := by
  obtain ⟨h1, h2⟩ := lay_strsO zs h
  show (PyData.canLayAll0 (zs.map PyData.str) && decide (PyData.depthAll (zs.map PyData.str) + 1 ≤ 64)) = true
  rw [h1, h2]
  rfl
def spIsWord : Sp := fun vs H Q _ => ∃ z, vs = [.str z] ∧ z.length ≤ 1000 ∧ okS z ∧ ∀ H', Same H H' → Q (.bl (nameS z)) H'
abbrev sIsWordL : Stmt := top 46
structure T5w (K : PySem.W.Frag) (mg : Str → Option Value) : Prop where
  isi : mg "isinstance" = none
  len : mg "len" = none
  str : mg "str" = none
section
variable {P : Program} {w : World} {K : PySem.W.Frag} {mg : Str → Option Value} {base : Heap}
theorem scIsWord : FnScope ["_law_value", "_law_sign"] ["_law_value"] (defScope sIsWordL) := ⟨rfl, rfl, rfl, by decide +kernel, rfl, by decide +kernel, by decide +kernel⟩
theorem ok_isWord {f : Addr} {fd : FuncData} (F : Fun K "_law_is_word" "_law_is_word" sIsWordL f fd) (T : T5w K mg) : FnOk P w K mg base CX0 1 f fd ["_law_value"] spIsWord := by
  refine F.ok scIsWord (fun vs H Q E h => ?_) (fun cdv A outer s H vs Q E hr h => ?_)
  · obtain ⟨v, rfl, _⟩ := h
    rfl
  · obtain ⟨z, rfl, hz, ok, k⟩ := h
    refine ⟨_, pss_cons (ps_if (pw_or (pt_not (pt_val (pe_callB call_isi (by rfl) T.isi (by decide +kernel) (pa_cons (pv 0) (pa_cons (pe_bltn (v := .ty "str") (by rfl) T.str (by decide +kernel) rfl) pa_nil)))))
        (pw_or1 (pt_not (pt_chain op_le op_le pe_int (pe_callB call_len_str (by rfl) T.len PySem.boot_len (pa_cons (pv 0) pa_nil)) pe_int)))).pt
        (pss_one (ps_ret pe_bl)) pss_nil)
      (pss_one (ps_ret (pe_cmpR (op_eqD hr.units) (pe_lc (own := [("_law_sign", 1)]) (g := gName 1) (by rfl) scIsWord.nd (pi_str (pv 0))
        (blkOk_by (own := [("_law_sign", 1)]) (N := ["_law_value", "_law_sign"]) (sc := defScope sIsWordL) (by decide +kernel)) (fun _ _ _ _ _ => pg_name (i := 1) scIsWord.nd rfl (Or.inl rfl)) (fun _ _ _ _ _ => pts_one (pt_cmpR op_notIn_sign (pv 1) pe_str rfl))
        (fun _ _ _ _ _ => pv 1)) (pe_lst pa_nil) (nomark _)))), ?_⟩
    refine ⟨_, rfl, _, _, _, _, true, rfl, .ty _, .base (.str z), kit_ty (by show kitB "str" "str" = some true; decide +kernel), true, rfl, ?_⟩
    refine if_neg_of rfl ⟨_, rfl, z, rfl, Nat.le_of_lt (small1000 hz), _, _, rfl, rfl, _, rfl, ?_⟩
    have en : nameS z = ((decide (1 ≤ z.length) && decide (z.length ≤ 8)) && z.cps.toList.all lowC) := rfl
    by_cases c1 : (1 : Int) ≤ z.length
    · have c1' : decide (1 ≤ z.length) = true := decide_eq_true (by omega)
      refine if_pos_of (decide_eq_true c1) ⟨_, _, rfl, rfl, _, rfl, ?_⟩
      by_cases c2 : (z.length : Int) ≤ 8
      · have c2' : decide (z.length ≤ 8) = true := decide_eq_true (by omega)
        rw [decide_eq_true c2]
        refine if_neg_of rfl ⟨_, rfl, _, rfl, fun D hD => lc_sieve (f := fun i => .str ⟨#[z.cps.getD i 0]⟩) (keep := fun i => !lowC (z.cps.getD i 0)) walk_str (small1000 hz) hD (fun _ _ => True.intro) ?_ gName_mono ?_⟩
        · rintro i x H2 H3 hi s2 ⟨rfl, c, hc, rfl⟩
          have ec : z.cps.getD i 0 = c := by simp [hc]
          refine ⟨rfl, fun R q => ?_, fun H4 Q' s4 q => ⟨_, rfl, ?_⟩⟩
          · refine ⟨_, rfl, c, alpha, rfl, rfl, _, rfl, ?_⟩
            have q0 := q _ (K0.Same.rfl')
            rw [ec, ← alpha_mem] at q0
            exact q0
          · have q0 := q _ (K0.Same.rfl')
            rw [ec] at q0
            exact q0
        · intro H2 s2 hD2
          refine ⟨Nat.zero_le _, fun q hq => ?_⟩
          have ndq : D ≠ q := ne_of_none hD2 hq
          refine ⟨.list ((((List.range z.cps.size).filter fun i => !lowC (z.cps.getD i 0)).map fun i => (⟨#[z.cps.getD i 0]⟩ : Str)).map PyData.str), .list [], .lst (SqL.of (by rw [upd_ne ndq]; exact hD2)) ?_, .lst (SqL.of upd_same) .nil, shaped_strsO ?_, rfl, ?_⟩
          · have e6 : (((List.range z.cps.size).filter fun i => !lowC (z.cps.getD i 0)).map fun i => V.str ⟨#[z.cps.getD i 0]⟩) = ((((List.range z.cps.size).filter fun i => !lowC (z.cps.getD i 0)).map fun i => (⟨#[z.cps.getD i 0]⟩ : Str)).map V.str) := by rw [List.map_map]; rfl
            rw [e6]
            exact dpAll_strs _
          · intro y hy d hd
            obtain ⟨i, hi, rfl⟩ := List.mem_map.mp hy
            have hi' := List.mem_range.mp (List.mem_filter.mp hi).1
            have hd' : d ∈ [z.cps.getD i 0] := hd
            rw [List.mem_singleton.mp hd']
            refine ok _ ?_
            have e7 : z.cps.getD i 0 = z.cps[i] := by simp [hi']
            rw [e7]
            exact Array.getElem_mem_toList hi'
          · rw [eqv_nil, List.isEmpty_map, List.isEmpty_map]
            have k' := k (upd H2 q (.lst [])) (K0.Same.tr s2 (K0.Same.new _ hq))
            rw [en, c1', c2'] at k'
            have e5 : ((List.range z.cps.size).filter fun i => !lowC (z.cps.getD i 0)).isEmpty = z.cps.toList.all lowC := by
              rw [← all_range z lowC]
              have fn := filter_none (n := z.cps.size) (keep := fun i => !lowC (z.cps.getD i 0)) (p := fun i => lowC (z.cps.getD i 0)) fun _ _ => rfl
              cases h5 : ((List.range z.cps.size).map fun i => lowC (z.cps.getD i 0)).all id with
              | true => rw [fn.mpr h5]; rfl
              | false =>
                cases h6 : (List.range z.cps.size).filter fun i => !lowC (z.cps.getD i 0) with
                | nil => rw [fn.mp h6] at h5; cases h5
                | cons a b => rfl
            rw [e5]
            exact k'
      · rw [decide_eq_false c2]
        refine if_pos_of rfl ?_
        have k' := k H K0.Same.rfl'
        have c2' : decide (z.length ≤ 8) = false := decide_eq_false (by omega)
        rw [en, c2', Bool.and_false] at k'
        exact k'
    · have c1' : decide (1 ≤ z.length) = false := decide_eq_false (by omega)
      refine if_neg_of (decide_eq_false c1) ⟨_, rfl, ?_⟩
      refine if_pos_of rfl ?_
      have k' := k H K0.Same.rfl'
      rw [en, c1'] at k'
      exact k'
end
end K0

/-! ## X8 -/
set_option maxRecDepth 100000
set_option maxHeartbeats 4000000
namespace K0
open PySem L2 NS RZ
/-! ### the law's own reading of a line -/
abbrev sRead : Stmt := top 47
def spRead : Sp := fun vs H Q _ => ∃ v, vs = [v] ∧ Da H v ∧ ShT v ∧ ∀ H' r, Same H H' → ToA H' r (toldW (wds (lnO v))) → Q r H'
theorem pe_imp {X : Cx} {e : Expr} {t t' : TE} (h : PE X e t) (ht : ∀ σ H Q, t' σ H Q → t σ H Q) : PE X e t' := ⟨fun pins s σ H Q I q => h.run pins s σ H Q I (ht σ H Q q)⟩
/-- the list of the words of the value in the first slot -/
def tWds : TE := fun σ H Q => ∃ v, σ[0]? = some (some v) ∧ Da H v ∧ ShT v ∧ ∀ H1 l, Same H H1 → H l = none → H1 l = some (.lst ((wds (lnO v)).map V.str)) → Q (.ref l) H1
structure TR (mg : Str → Option Value) : Prop where
  isi : mg "isinstance" = none
  str : mg "str" = none
  tup : mg "tuple" = none
  set : mg "set" = none
  len : mg "len" = none
section
variable {P : Program} {w : World} {K : PySem.W.Frag} {mg : Str → Option Value} {base : Heap} {fW : Addr} {fdW : FuncData}
abbrev nRead : List Str := ["_law_value", "_law_words", "_law_word"]
theorem scRead : FnScope nRead ["_law_value"] (defScope sRead) := ⟨rfl, rfl, rfl, by decide +kernel, rfl, by decide +kernel, by decide +kernel⟩
theorem ok_read {f : Addr} {fd : FuncData} (F : Fun K "_law_read" "_law_read" sRead f fd) (T : TR mg)
    (eW : Gl K mg "_law_is_word" fW) (GW : FnOk P w K mg base CX0 1 fW fdW ["_law_value"] spIsWord) (bW : Binds K fdW ["_law_value"] []) :
    FnOk P w K mg base CX0 2 f fd ["_law_value"] spRead := by
  refine F.ok scRead (fun vs H Q E h => ?_) (fun cdv A outer s H vs Q E hr h => ?_)
  · obtain ⟨v, rfl, _⟩ := h
    rfl
  · obtain ⟨v, rfl, d, sh, k⟩ := h
    refine ⟨_, pss_cons (ps_set (i := 1) scRead.nd rfl (Or.inl rfl) (pe_imp (t' := tWds) (pe_ifExp (pt_val (pe_callB call_isi (by rfl) T.isi (by decide +kernel) (pa_cons (pv 0) (pa_cons (pe_bltn (v := .ty "str") (by rfl) T.str (by decide +kernel) rfl) pa_nil))))
        (pe_m1 PySem.F.slot_str_split PySem.F.type_str_split mt_split (pv 0) pe_str) (pe_lst (pa_cons pe_str pa_nil))) (fun σ H Q h => ?_)))
      (pss_cons (ps_if (pt_cmpR (op_neD hr.units) (pe_lc (own := [("_law_word", 2)]) (g := gName 2) (by rfl) scRead.nd (pi_list (pv 1))
          (blkOk_by (own := [("_law_word", 2)]) (N := nRead) (sc := defScope sRead) (by decide +kernel)) (fun _ _ _ _ _ => pg_name (i := 2) scRead.nd rfl (Or.inl rfl))
          (fun _ _ _ _ _ => pts_one (pt_not (pt_val (pe_call GW hr (by rfl) eW.g eW.k bW .nil pass0 (pa_cons (pv 2) pa_nil))))) (fun _ _ _ _ _ => pv 2)) (pe_lst pa_nil) (nomark _)) (pss_one (ps_ret pe_non)) pss_nil)
      (pss_cons (ps_if (PW.pt (pw_and (pt_cmpR op_eq (pe_ix ix_list (pv 1) pe_int (fun _ _ => rfl)) pe_str (nomark _))
          (pw_and1 (pt_cmpR op_eq (pe_callB call_lenTx (by rfl) T.len PySem.boot_len (pa_cons (pe_callTy (cr_setTx rfl) (by rfl) T.set (by decide +kernel) (pa_cons (pe_slice sl_list (pv 1) (po_some pe_int) po_none) pa_nil)) pa_nil))
            (pe_callB call_len_seq (by rfl) T.len PySem.boot_len (pa_cons (pe_slice sl_list (pv 1) (po_some pe_int) po_none) pa_nil)) (nomark _)))))
          (pss_one (ps_ret (pe_tup (pa_cons pe_str (pa_cons (pe_callTy (T := "tuple") call_tuple_of (by rfl) T.tup (by decide +kernel) (pa_cons (pe_slice sl_list (pv 1) (po_some pe_int) po_none) pa_nil)) pa_nil))))) pss_nil)
      (pss_cons (ps_if (PW.pt (pw_and (pt_cmpR op_eq (pe_ix ix_list (pv 1) pe_int (fun _ _ => rfl)) pe_str (nomark _))
          (pw_and1 (pt_chain op_le op_le pe_int (pe_callB call_len_seq (by rfl) T.len PySem.boot_len (pa_cons (pv 1) pa_nil)) pe_int))))
          (pss_one (ps_ret (pe_tup (pa_cons pe_str (pa_cons (pe_tup (pa_cons (pe_ix ix_list (pv 1) pe_int (fun _ _ => rfl)) (pa_cons (pe_callTy (T := "tuple") call_tuple_of (by rfl) T.tup (by decide +kernel) (pa_cons (pe_slice sl_list (pv 1) (po_some pe_int) po_none) pa_nil)) pa_nil))) pa_nil))))) pss_nil)
      (pss_one (ps_ret pe_non))))), ?_⟩
    case refine_1 =>
      obtain ⟨v, ev, d, sh, k⟩ := h
      obtain ⟨ty, hty, kt⟩ := d.kStr
      refine ⟨v, ev, _, _, ty, _, isStrV v, rfl, .ty _, hty, kt, isStrV v, rfl, if_both (fun c => ?_) (fun c => ?_)⟩
      · obtain ⟨z, rfl⟩ := isStr_at c
        have hz := (sh z rfl).1
        exact ⟨_, ev, ⟨z, rfl⟩, z, spW, rfl, rfl, by decide +kernel, by rw [sizeLine_eq]; omega, fun l hl => k _ l (K0.Same.new _ hl) hl upd_same⟩
      · refine ⟨by show 1 ≤ sizeLine; decide, fun p hp => k _ p (K0.Same.new _ hp) hp ?_⟩
        have e : (wds (lnO v)).map V.str = [V.str ""] := by rw [isStr_no c]; rfl
        rw [e]
        exact upd_same
    refine ⟨v, rfl, d, sh, fun H1 l s1 hl el => ?_⟩
    have hle := wds_len sh
    have hz := wds_sz sh
    have ne := wds_ne (lnO v)
    generalize wds (lnO v) = ws at el k hle hz ne
    have k : ∀ H' r, Same H H' → ToA H' r (readW ws) → Q r H' := fun H' r s h => k H' r s (by rw [← readW_eq]; exact h)
    refine ⟨_, rfl, l, rfl, ⟨_, SqL.of el⟩, fun D hD => lc_sieve (f := fun i => .str (ws.getD i "")) (keep := fun i => !nameS (ws.getD i "")) (walk_list (K := K) (a := l) (xs := ws.map V.str)) (by rw [List.length_map, sizeLine_eq]; omega) hD (fun H2 s2 => SqL.of (s2 _ _ el)) ?_ gName_mono ?_⟩
    · rintro i x H2 H3 hi s2 ⟨rfl, hx⟩
      rw [List.getElem?_map] at hx
      obtain ⟨z, hzz, rfl⟩ := Option.map_eq_some_iff.mp hx
      have ezz : ws.getD i "" = z := by simp [List.getD, hzz]
      have zs := hz z (List.mem_of_getElem? hzz)
      rw [ezz]
      exact ⟨rfl, fun R q => ⟨_, rfl, z, rfl, Nat.le_trans zs.1 (by decide), zs.2, fun H4 s4 => ⟨_, rfl, q H4 s4⟩⟩, fun H4 Q' s4 q => ⟨_, rfl, q H4 K0.Same.rfl'⟩⟩
    · intro H2 s2 hD2
      rw [List.length_map] at hD2
      refine ⟨Nat.zero_le _, fun q hq => ?_⟩
      have ndq : D ≠ q := ne_of_none hD2 hq
      have sq := K0.Same.new (.lst []) hq
      have s3 := K0.Same.tr s2 sq
      have efl : ((List.range ws.length).filter fun i => !nameS (ws.getD i "")).map (fun i => V.str (ws.getD i "")) = (((List.range ws.length).filter fun i => !nameS (ws.getD i "")).map fun i => ws.getD i "").map V.str := by rw [List.map_map]; rfl
      rw [efl] at hD2
      refine ⟨.list ((((List.range ws.length).filter fun i => !nameS (ws.getD i "")).map fun i => ws.getD i "").map PyData.str), .list [], .lst (SqL.of (by rw [upd_ne ndq]; exact hD2)) (dpAll_strs _), .lst (SqL.of upd_same) .nil, shaped_strsO ?_, rfl, _, rfl, ?_⟩
      · intro y hy
        obtain ⟨i, hi, rfl⟩ := List.mem_map.mp hy
        have hi' := List.mem_range.mp (List.mem_filter.mp hi).1
        have e : ws.getD i "" = ws[i] := by simp [List.getD, hi']
        rw [e]
        exact (hz _ (List.getElem_mem hi')).2
      have eall : (!PyData.eqv (.list ((((List.range ws.length).filter fun i => !nameS (ws.getD i "")).map fun i => ws.getD i "").map PyData.str)) (.list [])) = !ws.all nameS := by
        rw [eqv_nil, List.isEmpty_map, List.isEmpty_map, ← all_in ws nameS]
        have fn := filter_none (n := ws.length) (keep := fun i => !nameS (ws.getD i "")) (p := fun i => nameS (ws.getD i "")) fun _ _ => rfl
        cases h5 : ((List.range ws.length).map fun i => nameS (ws.getD i "")).all id with
        | true => rw [fn.mpr h5]; rfl
        | false =>
          cases h6 : (List.range ws.length).filter fun i => !nameS (ws.getD i "") with
          | nil => rw [fn.mp h6] at h5; cases h5
          | cons a b => rfl
      rw [eall]
      generalize upd H2 q (.lst []) = H3 at s3
      have el3 := s3 _ _ el
      clear efl hD2 sq ndq hq eall
      obtain ⟨w0, r, rfl⟩ := List.exists_cons_of_ne_nil ne
      refine if_both (fun c1 => ?_) (fun c1 => ?_)
      · refine k H3 .non (K0.Same.tr s1 s3) ?_
        have c1' : (w0 :: r).all nameS = false := by
          cases h : (w0 :: r).all nameS with
          | true => rw [h] at c1; cases c1
          | false => rfl
        have e : readW (w0 :: r) = none := by
          unfold readW
          dsimp only
          rw [c1']
          rfl
        rw [e]
        exact rfl
      have c1' : (w0 :: r).all nameS = true := by
        cases h : (w0 :: r).all nameS with
        | true => rfl
        | false => rw [h] at c1; cases c1
      have eR : readW (w0 :: r) = (if w0 = ("asked" : Str) ∧ decide r.Nodup = true then some (.as r) else if w0 = ("clause" : Str) ∧ 3 ≤ r.length + 1 ∧ r.length + 1 ≤ 10 then (match r with | [] => none | t :: cs => some (.cl (t, cs))) else none) := by
        unfold readW
        dsimp only
        rw [if_pos c1']
        all_goals rfl
      have ec1 : cutV ((w0 :: r).map V.str) (some 1) none = r.map V.str := cutV_drop _ 1
      have sx : ∀ {H4 H5 : Hp} (s4 : Same H3 H4) (s5 : Same H4 H5), Same H H5 := fun s4 s5 => K0.Same.tr s1 (K0.Same.tr s3 (K0.Same.tr s4 s5))
      /- behind the asked ones -/
      have rest : ∀ H4, Same H3 H4 → ¬ (w0 = ("asked" : Str) ∧ decide r.Nodup = true) → tSeq (tIfS (tAnd (tTest (tOp rEq (tOp (rIxL K) (tVar 1) (tC (V.int 0))) (tC (V.str "clause")))) (tTest (tChain (rI0 fun i j => V.bl (decide (i ≤ j))) (rI0 fun i j => V.bl (decide (i ≤ j))) (tC (V.int 3)) (tCB (rLenS K) (tCons (tVar 1) tNil)) (tC (V.int 10)))))
          (tRet (tTup (tCons (tC (V.str "clause")) (tCons (tTup (tCons (tOp (rIxL K) (tVar 1) (tC (V.int 1))) (tCons (tCB (rTupOf K) (tCons (tSl (rSlL K) (tVar 1) (tPart (tC (V.int 2))) tNoPart) tNil)) tNil))) tNil)))) tNext) (tRet (tC V.non)) { nx := fun x H' => Q V.non H', rt := Q } [some v, some (.ref l), none] H4 := fun H4 s4 no => by
        have el4 := s4 _ _ el3
        rw [if_neg no] at eR
        have fin : ∀ H', Same H4 H' → ¬ (w0 = ("clause" : Str) ∧ 3 ≤ r.length + 1 ∧ r.length + 1 ≤ 10) → Q .non H' := fun H' s' no' => k H' .non (sx s4 s') (by
          rw [eR, if_neg no']
          exact rfl)
        refine ⟨_, rfl, l, _, _, .str w0, rfl, rfl, SqL.of el4, atI_nat (j := 0) rfl, rfl, _, rfl, if_both (fun c2 => ?_) (fun c2 => ?_)⟩
        case refine_2 => exact if_neg_of rfl (fin H4 K0.Same.rfl' fun z => of_decide_eq_false c2 (by rw [z.1]))
        have w1 : w0 = ("clause" : Str) := by
          have z := of_decide_eq_true c2
          injection z
        refine ⟨_, rfl, l, _, rfl, .inl (SqL.of el4), _, _, rfl, rfl, _, rfl, if_both (fun c3 => ?_) (fun c3 => ?_)⟩
        case refine_2 =>
          refine ⟨_, rfl, if_neg_of rfl (fin H4 K0.Same.rfl' fun z => ?_)⟩
          have c3 := of_decide_eq_false c3
          rw [List.length_map, List.length_cons] at c3
          omega
        have c3 := of_decide_eq_true c3
        rw [List.length_map, List.length_cons] at c3
        refine ⟨_, _, rfl, rfl, _, rfl, if_both (fun c4 => ?_) (fun c4 => ?_)⟩
        case refine_2 =>
          refine fin H4 K0.Same.rfl' fun z => ?_
          have c4 := of_decide_eq_false c4
          rw [List.length_map, List.length_cons] at c4
          omega
        have c4 := of_decide_eq_true c4
        rw [List.length_map, List.length_cons] at c4
        rw [if_pos ⟨w1, by omega, by omega⟩] at eR
        cases r with
        | nil => simp at c3
        | cons t1 cs =>
        have ec2 : cutV ((w0 :: t1 :: cs).map V.str) (some 2) none = cs.map V.str := cutV_drop _ 2
        refine ⟨_, rfl, l, _, _, .str t1, rfl, rfl, SqL.of el4, atI_nat (j := 1) rfl, _, rfl, 2, rfl, l, _, rfl, SqL.of el4, fun b hb => ?_⟩
        rw [ec2]
        have s5 := K0.Same.new (.lst (cs.map V.str)) hb
        refine ⟨b, _, rfl, .inl ⟨SqL.of upd_same, fun t2 ht2 => ?_⟩⟩
        have s6 := K0.Same.new (.tup (cs.map V.str)) ht2
        refine ⟨by show 2 ≤ sizeLine; decide, fun p2 hp2 => ?_⟩
        have s7 := K0.Same.new (.tup [.str t1, .ref t2]) hp2
        refine ⟨by show 2 ≤ sizeLine; decide, fun p3 hp3 => ?_⟩
        have s8 := K0.Same.new (.tup [.str "clause", .ref p2]) hp3
        refine k _ (.ref p3) (sx s4 (K0.Same.tr s5 (K0.Same.tr s6 (K0.Same.tr s7 s8)))) ?_
        rw [eR]
        exact ⟨p3, p2, rfl, upd_same, t2, s8 _ _ upd_same, s8 _ _ (s7 _ _ upd_same)⟩
      refine ⟨_, rfl, l, _, _, .str w0, rfl, rfl, SqL.of el3, atI_nat (j := 0) rfl, rfl, _, rfl, if_both (fun c2 => ?_) (fun c2 => ?_)⟩
      case refine_2 => exact if_neg_of rfl (rest H3 K0.Same.rfl' fun z => of_decide_eq_false c2 (by rw [z.1]))
      have w1 : w0 = ("asked" : Str) := by
        have z := of_decide_eq_true c2
        injection z
      refine ⟨_, rfl, 1, rfl, l, _, rfl, SqL.of el3, fun b hb => ?_⟩
      rw [ec1]
      have s4 := K0.Same.new (.lst (r.map V.str)) hb
      have rl : r.length ≤ 1000 := by simp only [List.length_cons] at hle; omega
      refine ⟨b, r, rfl, .inr (SqL.of upd_same), rl, fun p n hn hp => ⟨p, _, n, rfl, upd_same, by omega, fun ⟨L, l1, l2, l3⟩ => ?_⟩⟩
      have sp := K0.Same.new (SetTO w p (fun j => decide (j ∈ r)) n) hp
      have s5 := K0.Same.tr s4 sp
      refine ⟨_, rfl, 1, rfl, l, _, rfl, SqL.of (s5 _ _ el3), fun b2 hb2 => ?_⟩
      rw [ec1]
      have s6 := K0.Same.tr s5 (K0.Same.new (.lst (r.map V.str)) hb2)
      refine ⟨b2, _, rfl, .inl (SqL.of upd_same), rfl, _, rfl, ?_⟩
      have e : n = (ded r).length := by rw [← l3]; exact ded_len l1 l2
      have e2 : decide (V.int (n : Int) = V.int ((r.map V.str).length : Int)) = decide r.Nodup := by
        refine decide_eq_decide.mpr ?_
        rw [V.int.injEq, List.length_map, Int.ofNat_inj, e]
        exact ded_full r
      rw [e2]
      refine if_both (fun c3 => ?_) (fun c3 => ?_)
      case refine_2 => exact rest _ s6 fun z => by rw [z.2] at c3; cases c3
      have el5 := s6 _ _ el3
      refine ⟨_, rfl, 1, rfl, l, _, rfl, SqL.of el5, fun b3 hb3 => ?_⟩
      rw [ec1]
      have s7 := K0.Same.new (.lst (r.map V.str)) hb3
      refine ⟨b3, _, rfl, .inl ⟨SqL.of upd_same, fun t2 ht2 => ?_⟩⟩
      have s8 := K0.Same.new (.tup (r.map V.str)) ht2
      refine ⟨by show 2 ≤ sizeLine; decide, fun p3 hp3 => ?_⟩
      have s9 := K0.Same.new (.tup [.str "asked", .ref t2]) hp3
      refine k _ (.ref p3) (sx s6 (K0.Same.tr s7 (K0.Same.tr s8 s9))) ?_
      rw [eR, if_pos ⟨w1, c3⟩]
      exact ⟨p3, t2, rfl, upd_same, s9 _ _ upd_same⟩
end
end K0

/-! ## X9 -/
set_option maxRecDepth 100000
set_option maxHeartbeats 4000000
namespace K0
open PySem L2 NS RZ
/-! ### the law's widths, columns -/
def kW (c : CL) : NestedKey := .tup [.text c.1, .num (c.2.length : Int)]
theorem kW_depth (c : CL) : (kW c).depth = 1 := by simp [kW, NestedKey.depth, NestedKey.depthAll]
theorem kW_inj {c c' : CL} (h : kW c = kW c') : c.1 = c'.1 ∧ c.2.length = c'.2.length := by
  unfold kW at h
  injection h with h
  injection h with h1 h2
  injection h1 with h1
  injection h2 with h2 _
  injection h2 with h2
  exact ⟨h1, Int.ofNat.inj h2⟩
theorem ok_kW (c c' : CL) : okK (kW c) (kW c') = true := by simp [kW, okK, okKs]
def wV (c : CL) : Key × V := (Sum.inr c.1, V.int c.2.length)
theorem merge_tabs (cs : List CL) : mergeK [] (cs.map wV) = tabsOf cs := by
  unfold mergeK tabsOf
  rw [List.foldl_map]
  rfl
def atW (H : Hp) (m : Row) (c : CL) : Prop := m.2 = kW c ∧ H m.1 = some (.tup [.str c.1, .int c.2.length])
theorem rows_w {H : Hp} {D : Addr} : ∀ (acc : List V) (cs : List CL), acc.length = cs.length → (∀ (i : Nat) (y : V), acc[i]? = some y → ∃ (t : Addr) (c : CL), y = V.ref t ∧ cs[i]? = some c ∧ t ≠ D ∧ H t = some (.tup [.str c.1, .int c.2.length])) →
    ∃ N : List Row, acc = N.map (fun m => V.ref m.1) ∧ N.map (·.2) = cs.map kW ∧ ∀ m ∈ N, ∃ c, atW H m c
  | [], [], _, _ => ⟨[], rfl, rfl, fun m z => by cases z⟩
  | [], _ :: _, e, _ => by cases e
  | _ :: _, [], e, _ => by cases e
  | y :: acc, c :: cs, e, h => by
    obtain ⟨t, c', rfl, hc, _, h1⟩ := h 0 y rfl
    obtain rfl : c = c' := Option.some.inj hc
    obtain ⟨N, n1, n2, n3⟩ := rows_w acc cs (Nat.succ.inj e) fun i u hu => h (i + 1) u hu
    refine ⟨(t, kW c) :: N, by rw [List.map_cons, ← n1], by rw [List.map_cons, List.map_cons, n2], fun m hm => ?_⟩
    rcases List.mem_cons.mp hm with z | z
    · rw [z]
      exact ⟨c, rfl, h1⟩
    · exact n3 m z
theorem paired_w {K : PySem.W.Frag} {H : Hp} : ∀ (M : List Row) (cs : List CL), M.map (·.2) = cs.map kW → (∀ m ∈ M, ∃ c, atW H m c) → Paired (fun p (kv : Key × V) => SqT K H p [kV kv.1, kv.2]) (M.map (·.1)) (cs.map wV)
  | [], [], _, _ => .nil
  | [], _ :: _, e, _ => by cases e
  | _ :: _, [], e, _ => by cases e
  | m :: M, c :: cs, e, h => by
    rw [List.map_cons, List.map_cons] at e
    injection e with e1 e2
    obtain ⟨c', h1, h2⟩ := h m List.mem_cons_self
    rw [h1] at e1
    obtain ⟨z1, z2⟩ := kW_inj e1
    rw [z1, z2] at h2
    exact .cons (SqT.of h2) (paired_w M cs e2 fun u hu => h u (List.mem_cons_of_mem _ hu))
abbrev sLWid : Stmt := top 37
/-- the widths agree with some clause of the table -/
def WidD (kvs : List (Key × V)) (cs : List CL) : Prop := ∀ c ∈ cs, ∃ c' ∈ cs, c'.1 = c.1 ∧ valV kvs (Sum.inr c.1 : Key) = some (V.int c'.2.length)
theorem widD_of {cs cs2 : List CL} (pk : (cs2.map kW).Perm (cs.map kW)) : WidD (tabsOf cs2) cs := by
  intro c hc
  obtain ⟨c2, h2, e2⟩ := List.mem_map.mp (pk.mem_iff.mpr (List.mem_map.mpr ⟨c, hc, rfl⟩))
  obtain ⟨z1, z2⟩ := kW_inj e2
  obtain ⟨n, h3, c3, h4, h5, h6⟩ := tabsOf_some cs2 c2 h2
  obtain ⟨c', h7, e7⟩ := List.mem_map.mp (pk.mem_iff.mp (List.mem_map.mpr ⟨c3, h4, rfl⟩))
  obtain ⟨z3, z4⟩ := kW_inj e7
  refine ⟨c', h7, by rw [z3, h5, z1], ?_⟩
  rw [← z1, h3, z4, h6]
theorem rows_atW {H : Hp} : ∀ (M : List Row), (∀ m ∈ M, ∃ c, atW H m c) → ∃ cs2 : List CL, M.map (·.2) = cs2.map kW ∧ True
  | [], _ => ⟨[], rfl, True.intro⟩
  | m :: M, h => by
    obtain ⟨c, h1, _⟩ := h m List.mem_cons_self
    obtain ⟨cs2, h2, _⟩ := rows_atW M fun u hu => h u (List.mem_cons_of_mem _ hu)
    exact ⟨c :: cs2, by rw [List.map_cons, List.map_cons, h1, h2], True.intro⟩
def spLWid2 : Sp := fun vs H Q _ => ∃ (d : Addr) (q : PQ), vs = [.ref d] ∧ PlA H d q ∧ q.cls.length ≤ 1000 ∧ ∀ a kvs H', Same H H' → H a = none → H' a = some (.dK kvs) → WidD kvs q.cls → Q (.ref a) H'
def spCols2 : Sp := fun vs H Q _ => ∃ (d : Addr) (q : PQ), vs = [.ref d] ∧ PlA H d q ∧ Smol q.cls ∧ ∀ ns l H', IsCols (colsIn q.cls) ns → Same H H' → H l = none → H' l = some (.lst (ns.map V.str)) → Q (.ref l) H'
structure TLs (K : PySem.W.Frag) (mg : Str → Option Value) : Prop extends TA K mg where
  dct : mg "dict" = none
section
variable {P : Program} {w : World} {K : PySem.W.Frag} {mg : Str → Option Value} {base : Heap}
abbrev nLWid : List Str := ["_law_plain", "_law_table", "_law_columns_here"]
theorem scLWid : FnScope nLWid ["_law_plain"] (defScope sLWid) := ⟨rfl, rfl, rfl, by decide +kernel, rfl, by decide +kernel, by decide +kernel⟩
theorem ok_lWid2 {f : Addr} {fd : FuncData} (F : Fun K "_law_widths" "_law_widths" sLWid f fd) (T : TLs K mg) : FnOk P w K mg base CX0 1 f fd ["_law_plain"] spLWid2 := by
  refine F.ok scLWid (fun vs H Q E h => ?_) (fun cdv A outer s H vs Q E hr h => ?_)
  · obtain ⟨d, q, rfl, _⟩ := h
    rfl
  · obtain ⟨d, q, rfl, ⟨lc, la, ts, h1, h2, h3, h4⟩, g, k⟩ := h
    refine ⟨_, pss_one (ps_ret (pe_callTy (call_dictP rfl) (by rfl) T.dct (by decide +kernel) (pa_cons (pe_callB (cr_sortList hr.units) (by rfl) T.srt (by decide +kernel) (pa_cons
        (pe_lc (own := [("_law_table", 1), ("_law_columns_here", 2)]) (g := gTup K 2 (gCons (gName 1) (gCons (gName 2) gNil))) (tt := tYes) rfl scLWid.nd (pi_list (pe_dget (lt1 hr.units) (pv 0) pe_str (fun _ _ => rfl)))
          (blkOk_by (own := [("_law_table", 1), ("_law_columns_here", 2)]) (N := nLWid) (sc := defScope sLWid) (by decide +kernel))
          (fun _ _ _ _ _ => pg_tup rfl (pgs_cons (pg_name (i := 1) scLWid.nd rfl (Or.inl rfl)) (pgs_cons (pg_name (i := 2) scLWid.nd rfl (Or.inl rfl)) pgs_nil))) (fun _ _ _ _ _ => pts_nil)
          (fun _ _ _ _ _ => pe_tup (pa_cons (pv 1) (pa_cons (pe_callB (id := "len") (r := rLenS K) call_len_seq (by rfl) T.len PySem.boot_len (pa_cons (pv 2) pa_nil)) pa_nil)))) pa_nil)) pa_nil))), ?_⟩
    have n1 : ts.length = q.cls.length := h3.len
    have c8 := g
    refine ⟨_, rfl, d, V.ref lc, rfl, DGet.k (k := Sum.inr "clauses") h1, lc, rfl, ⟨_, SqL.of h2⟩, fun D hD => lc_made (walk_list (K := K) (a := lc) (xs := ts.map V.ref)) (fun i y H' => ∃ t c, y = V.ref t ∧ q.cls[i]? = some c ∧ t ≠ D ∧ H' t = some (.tup [.str c.1, .int c.2.length]))
      (fun i y H1 H2 ⟨t, c, e1, e2, n1, h1⟩ kd => ⟨t, c, e1, e2, n1, kd _ _ n1 h1⟩) (by rw [List.length_map, sizeLine_eq]; omega) hD (fun H2 s2 => SqL.of (s2 _ _ h2)) ?_ gPair_mono ?_⟩
    · rintro i x H2 H3 hi s2 ⟨acc, hacc⟩ ⟨rfl, hx⟩
      rw [List.getElem?_map] at hx
      obtain ⟨t, ht, rfl⟩ := Option.map_eq_some_iff.mp hx
      obtain ⟨hti, et⟩ := List.getElem?_eq_some_iff.mp ht
      obtain ⟨c, hci, hA⟩ := h3.at_ i hti
      rw [et] at hA
      obtain ⟨t2, g1, g2⟩ := hA.same s2
      refine ⟨t, _, rfl, SqT.of g1, rfl, _, _, rfl, _, _, rfl, rfl, rfl, fun Q' hq => ⟨_, rfl, _, rfl, t2, _, rfl, .inr (SqT.of g2), ?_⟩⟩
      rw [List.length_map]
      refine ⟨by show 2 ≤ sizeLine; decide, fun m hm => hq _ _ (K0.Same.new _ hm) ⟨m, c, rfl, hci, ?_, upd_same⟩⟩
      intro e
      rw [e, hacc] at hm
      cases hm
    · intro H2 acc s2 hD2 hlen hR
      rw [List.length_map, n1] at hlen
      obtain ⟨N, rfl, e2, e3⟩ := rows_w acc q.cls hlen hR
      refine ⟨D, N, 2, rfl, SqL.of hD2, fun m hm => ?_, ⟨.inr (.inl rfl), fun m hm => ?_, fun m hm m' hm' => ?_⟩, fun M' p pm so hp => ?_⟩
      · obtain ⟨c, z1, z2⟩ := e3 m hm
        refine ⟨?_, by rw [z1, kW_depth]; decide⟩
        rw [z1]
        exact .tup (SqT.of z2) (.cons (.str _) (.cons (.int _) .nil))
      · obtain ⟨c, z1, _⟩ := e3 m hm
        exact ⟨_, _, z1, rfl⟩
      · obtain ⟨c, z1, _⟩ := e3 m hm
        obtain ⟨c', z1', _⟩ := e3 m' hm'
        rw [z1, z1']
        exact ok_kW c c'
      · have sp := K0.Same.new (.lst (M'.map fun m => V.ref m.1)) hp
        obtain ⟨cs2, ek, e4⟩ := rows_atW (H := H2) M' fun m hm => e3 m (pm.mem_iff.mp hm)
        have em : upd H2 p (.lst (M'.map fun m => V.ref m.1)) p = some (.lst ((M'.map (·.1)).map V.ref)) := by
          rw [upd_same, List.map_map]
          rfl
        refine ⟨p, M'.map (·.1), cs2.map wV, rfl, SqL.of em, paired_w M' cs2 ek fun m hm => ?_, fun a ha => ?_⟩
        · obtain ⟨c, z1, z2⟩ := e3 m (pm.mem_iff.mp hm)
          exact ⟨c, z1, sp _ _ z2⟩
        · rw [merge_tabs]
          have pk : (cs2.map kW).Perm (q.cls.map kW) := by
            rw [← ek, ← e2]
            exact pm.map _
          exact k a _ _ (K0.Same.tr s2 (K0.Same.tr sp (K0.Same.new _ ha))) (none_back s2 (none_back sp ha)) upd_same (widD_of pk)
theorem ok_cols2 {f : Addr} {fd : FuncData} (F : Fun K "_law_columns" "_law_columns" sCols f fd) (T : TA K mg) : FnOk P w K mg base CX0 1 f fd ["_law_plain"] spCols2 := by
  refine F.ok scCols (fun vs H Q E h => ?_) (fun cdv A outer s H vs Q E hr h => ?_)
  · obtain ⟨d, q, rfl, _⟩ := h
    rfl
  · obtain ⟨d, q, rfl, hd, g, k⟩ := h
    have tot := g.total
    refine ⟨_, pss_cons (ps_set (i := 1) scCols.nd rfl (Or.inl rfl) (pe_lst pa_nil))
      (pss_cons (ps_for PassesOwn.never rfl (pi_list (pe_dget (lt1 hr.units) (pv 0) pe_str (fun _ _ => rfl))) (pg_tup rfl (pgs_cons (pg_name (i := 2) scCols.nd rfl (Or.inl rfl)) (pgs_cons (pg_name (i := 3) scCols.nd rfl (Or.inl rfl)) pgs_nil)))
        (pss_one (ps_expr (pe_bm PySem.F.plainAttrs_list PySem.F.slot_list_extend PySem.F.type_list_extend mt_extend (pv 1) (pa_cons (pe_callTy call_list_of (by rfl) T.list (by decide +kernel) (pa_cons (pv 3) pa_nil)) pa_nil)))))
      (pss_one (ps_ret (pe_callB (cr_sortTxP rfl) (by rfl) T.srt (by decide +kernel) (pa_cons (pe_callTy (cr_setTx rfl) (by rfl) T.set (by decide +kernel) (pa_cons (pv 1) pa_nil)) pa_nil))))), ?_⟩
    obtain ⟨lc, la, ts, h1, h2, h3, h4⟩ := hd
    refine ⟨by show 0 ≤ sizeLine; decide, fun l hl => ?_⟩
    have s0 : Same H (upd H l (.lst [])) := K0.Same.new _ hl
    refine ⟨_, rfl, d, V.ref lc, rfl, DGet.k (k := Sum.inr "clauses") (s0 _ _ h1), lc, rfl, ⟨_, SqL.of (s0 _ _ h2)⟩,
      for_list (K := K) (a := lc) (xs := ts.map V.ref) (fun i σ H' => (∃ u v, σ = [some (.ref d), some (.ref l), u, v]) ∧ Same H H' ∧ H' l = some (.lst ((colsIn (q.cls.take i)).map V.str)))
        ⟨⟨none, none, rfl⟩, s0, upd_same⟩ (fun i σ H' _ ⟨_, s1, _⟩ => SqL.of (s1 _ _ h2)) ?_ ?_⟩
    · rintro i x σ H1 hx ⟨⟨u, v, rfl⟩, s1, hq⟩
      rw [List.getElem?_map] at hx
      obtain ⟨t, ht, rfl⟩ := Option.map_eq_some_iff.mp hx
      obtain ⟨hi, et⟩ := List.getElem?_eq_some_iff.mp ht
      obtain ⟨c, hc, hA⟩ := h3.at_ i hi
      rw [et] at hA
      obtain ⟨t2, g1, g2⟩ := hA
      refine ⟨t, _, rfl, SqT.of (s1 _ _ g1), rfl, _, _, rfl, _, _, rfl, rfl, ?_⟩
      refine ⟨_, rfl, .inl ⟨rfl, _, SqL.of hq⟩, _, rfl, t2, _, rfl, .inr (SqT.of (s1 _ _ g2)), fun m hm => ?_⟩
      have ml : l ≠ m := ne_of_none hq hm
      have bound := colsIn_le q.cls (i + 1)
      rw [colsIn_take _ _ _ hc, List.length_append] at bound
      refine ⟨l, m, _, _, rfl, rfl, by rw [upd_ne ml]; exact hq, upd_same, ?_, ⟨_, _, rfl⟩, fun b o e => ?_, ?_⟩
      · rw [List.length_map, List.length_map, sizeLine_eq]
        omega
      · rw [upd_ne (ne_of_none e hl), upd_ne (ne_of_none (s1 _ _ e) hm)]
        exact s1 _ _ e
      · rw [upd_same, colsIn_take _ _ _ hc, List.map_append]
    · rintro σ H1 ⟨⟨u, v, rfl⟩, s1, hq⟩
      rw [List.length_map, h3.len, List.take_length] at hq
      refine ⟨_, rfl, l, _, rfl, .inr (SqL.of hq), by omega, fun p n hn hp => ⟨p, _, n, rfl, upd_same, fun L nd hL => g.nodup nd fun k hk => of_decide_eq_true (hL k hk), fun ns m g1 g2 g3 hm => ?_⟩⟩
      have sp := K0.Same.new (SetTO w p (fun j => decide (j ∈ colsIn q.cls)) n) hp
      refine k ns m _ ⟨g1, g2, fun j => by rw [g3, decide_eq_true_eq]⟩ (K0.Same.tr s1 (K0.Same.tr sp (K0.Same.new _ hm))) ?_ upd_same
      exact none_back s1 (none_back sp hm)
end
end K0

/-! ## X10 -/
set_option maxRecDepth 100000
set_option maxHeartbeats 8000000
namespace K0
open PySem L2 NS RZ
/-! ### what is due -/
abbrev sDue : Stmt := top 48
/-- a value that tells this -/
def ResV (H : Hp) (v : V) : Res → Prop
  | .ix n => v = .int (n : Nat)
  | .qu => v = .str "question"
  | .pl q => ∃ d, v = .ref d ∧ PlA H d q
def spDue (K : PySem.W.Frag) : Sp := fun vs H Q _ => ∃ (a : Addr) (xs : List V), vs = [.ref a] ∧ SqL K H a xs ∧ xs.length ≤ 9 ∧ (∀ x ∈ xs, Da H x ∧ ShT x) ∧ PoolOk (xs.map tl) ∧ ∀ H' v r, Same H H' → ResR (xs.map tl) r → ResV H' v r → Q v H'
structure TDu (mg : Str → Option Value) : Prop where
  enu : mg "enumerate" = none
  srt : mg "sorted" = none
  list : mg "list" = none
  len : mg "len" = none
/-- the asked columns as a value -/
def AskV (H : Hp) (v : V) : Option (List Str) → Prop
  | none => v = .non
  | some l => ∃ u, v = .ref u ∧ H u = some (.tup (l.map V.str))
theorem AskV.same {H H' : Hp} {v : V} {o : Option (List Str)} (h : AskV H v o) (s : Same H H') : AskV H' v o := by
  cases o with
  | none => exact h
  | some l =>
    obtain ⟨u, e, h⟩ := h
    exact ⟨u, e, s _ _ h⟩
theorem AskV.non {H : Hp} {v : V} {o : Option (List Str)} (h : AskV H v o) : decide (v = .non) = !o.isSome := by
  cases o with
  | none => exact decide_eq_true h
  | some l =>
    obtain ⟨u, e, _⟩ := h
    rw [e]
    exact decide_eq_false fun z => by cases z
theorem AskV.off {H : Hp} {v : V} {p : Addr} {o : Option (List Str)} {x : HO} (h : AskV H v o) (hp : ∀ xs, H p ≠ some (.tup xs)) : AskV (upd H p x) v o := by
  cases o with
  | none => exact h
  | some l =>
    obtain ⟨u, e, h⟩ := h
    exact ⟨u, e, by rw [upd_ne fun z => hp _ (z ▸ h)]; exact h⟩
theorem pre_q {L : List (Option LT)} {s : FS} {cs' : List CL} (po : PoolOk L) (pre : PreF s) (len : s.1.length ≤ 9) (mem : ∀ c ∈ s.1, some (.cl c) ∈ L) (lcs : cs'.length = s.1.length) (up : cs'.Pairwise fun c c' => ltC c c' = true) (mm : ∀ c, c ∈ cs' ↔ c ∈ s.1) : PreQ ⟨cs', s.2.getD []⟩ := by
  obtain ⟨pool, p1, p2⟩ := po.ex
  have each : ∀ {q : CL → Prop}, (∀ c ∈ s.1, q c) → ∀ c ∈ cs', q c := fun h c m => h c ((mm c).mp m)
  refine ⟨⟨⟨by rw [lcs]; omega, each fun c m => (pre.wide c m).2, pool, p1, fun k hk => ?_⟩, each pre.tab, each pre.nam, each fun c m => (pre.wide c m).1, up⟩, ?_, ?_, ?_⟩
  · obtain ⟨c, hc, h⟩ := colsIn_mem.mp hk
    exact p2 c (mem c ((mm c).mp hc)) k h
  all_goals
    cases ea : s.2 with
    | none => first | exact List.nodup_nil | exact (fun _ h => by cases h) | exact Nat.zero_le _
    | some l =>
      obtain ⟨a1, a2, a3⟩ := pre.as_ l ea
      first | exact a1 | exact a2 | exact a3
theorem dStrs_shapedL {l : List Str} (h : ∀ k ∈ l, PyData.strOk k = true) : SeqAt.shaped (.list (l.map PyData.str)) = true := by
  unfold SeqAt.shaped
  have e : (PyData.list (l.map PyData.str)).canLay0 = true := layS_strs h
  have d : (PyData.list (l.map PyData.str)).depth ≤ 64 := by
    show PyData.depthAll (l.map PyData.str) + 1 ≤ 64
    rw [depth_strs]
    decide
  rw [e, decide_eq_true d]
  rfl
/-- sieved by what is not so: none left exactly if all are so -/
theorem none_left {n : Nat} (p : Nat → Bool) : ((List.range n).filter fun i => !p i).isEmpty = ((List.range n).map p).all id := by
  have fn := filter_none (n := n) (keep := fun i => !p i) (p := p) fun _ _ => rfl
  cases h5 : ((List.range n).map p).all id with
  | true => rw [fn.mpr h5]; rfl
  | false =>
    cases h6 : (List.range n).filter fun i => !p i with
    | nil => rw [fn.mp h6] at h5; cases h5
    | cons a b => rfl
def widK (kvs : List (Key × V)) (cs : List CL) (i : Nat) : Bool := decide (some (V.int (cs.getD i ("", [])).2.length) = valV kvs (Sum.inr (cs.getD i ("", [])).1 : Key))
theorem widK_all {kvs : List (Key × V)} {cs cs' : List CL} (wd : WidD kvs cs') (mm : ∀ c, c ∈ cs' ↔ c ∈ cs) : ((List.range cs.length).map (widK kvs cs)).all id = true ↔ ∀ c ∈ cs', ∀ c' ∈ cs', c.1 = c'.1 → c.2.length = c'.2.length := by
  rw [List.all_map, List.all_eq_true]
  constructor
  · intro h c hc c' hc' e
    have at_ : ∀ x ∈ cs', some (V.int x.2.length) = valV kvs (Sum.inr x.1 : Key) := fun x hx => by
      obtain ⟨i, hi, rfl⟩ := List.getElem_of_mem ((mm x).mp hx)
      have z2 := of_decide_eq_true (show widK kvs cs i = true from h i (List.mem_range.mpr hi))
      have e2 : cs.getD i ("", []) = cs[i] := by simp [List.getD, hi]
      rw [e2] at z2
      exact z2
    have h1 := at_ c hc
    have h2 := at_ c' hc'
    rw [e, ← h2] at h1
    injection h1 with h1
    injection h1 with h1
    omega
  · intro h i hi
    have hm := (mm _).mpr (getD_mem (List.mem_range.mp hi))
    obtain ⟨c', h1, h2, h3⟩ := wd _ hm
    refine decide_eq_true ?_
    rw [h3, h _ hm c' h1 h2.symm]
theorem dp_cls {K : PySem.W.Frag} {H : Hp} {ts : List Addr} {cs : List CL} (hc : Cls H ts cs) : ∀ (I : List Nat), (∀ i ∈ I, i < cs.length) → DpAll K H (I.map fun i => V.ref (ts.getD i 0)) (I.map fun i => dC (cs.getD i ("", [])))
  | [], _ => .nil
  | i :: I, h => by
    have hi := h i List.mem_cons_self
    have hi' : i < ts.length := by rw [hc.len]; exact hi
    obtain ⟨c, e, hA⟩ := hc.at_ i hi'
    have e1 : ts.getD i 0 = ts[i] := by simp [List.getD, hi']
    have e2 : cs.getD i ("", []) = c := by simp [List.getD, e]
    refine .cons ?_ (dp_cls hc I fun j hj => h j (List.mem_cons_of_mem _ hj))
    show Dp K H (V.ref (ts.getD i 0)) (dC (cs.getD i ("", [])))
    rw [e1, e2]
    exact hA.dp
/-- the asked columns as a new list -/
def tAskL : TE := fun σ H Q => ∃ (av : V) (o : Option (List Str)), σ[2]? = some (some av) ∧ AskV H av o ∧ ∀ la, H la = none → Q (.ref la) (upd H la (.lst ((o.getD []).map V.str)))
/-- how far the lines are read -/
def DueI (a lc : Addr) (H : Hp) (L : List (Option LT)) (i : Nat) (σ : L2.St) (H' : Hp) : Prop := ∃ (va v3 v4 v5 : Option V) (av : V) (ts : List Addr) (s : FS), σ = [some (.ref a), some (.ref lc), some av, v3, v4, v5, none, none, none, none, none] ∧ Same H H' ∧ H' lc = some (.lst (ts.map V.ref)) ∧ Cls H' ts s.1 ∧
  AskV H' av s.2 ∧ runF 0 ([], none) L = runF i s (L.drop i) ∧ PreF s ∧ s.1.length ≤ i ∧ ∀ c ∈ s.1, some (.cl c) ∈ L
section
variable {P : Program} {w : World} {K : PySem.W.Frag} {mg : Str → Option Value} {base : Heap} {fR fC fW : Addr} {fdR fdC fdW : FuncData}
abbrev nDue : List Str := ["_law_values", "_law_clauses", "_law_asked", "_law_at", "_law_value", "_law_told_here", "_law_plain", "_law_columns_here", "_law_widths_here", "_law_one", "_law_clause"]
theorem scDue : FnScope nDue ["_law_values"] (defScope sDue) := ⟨rfl, rfl, rfl, by decide +kernel, rfl, by decide +kernel, by decide +kernel⟩
theorem ok_due {f : Addr} {fd : FuncData} (F : Fun K "_law_due" "_law_due" sDue f fd) (T : TDu mg)
    (eR : Gl K mg "_law_read" fR) (GR : FnOk P w K mg base CX0 2 fR fdR ["_law_value"] spRead) (bR : Binds K fdR ["_law_value"] [])
    (eC : Gl K mg "_law_columns" fC) (GC : FnOk P w K mg base CX0 1 fC fdC ["_law_plain"] spCols2) (bC : Binds K fdC ["_law_plain"] [])
    (eW : Gl K mg "_law_widths" fW) (GW : FnOk P w K mg base CX0 1 fW fdW ["_law_plain"] spLWid2) (bW : Binds K fdW ["_law_plain"] []) :
    FnOk P w K mg base CX0 3 f fd ["_law_values"] (spDue K) := by
  refine F.ok scDue (fun vs H Q E h => ?_) (fun cdv A outer s H vs Q E hr h => ?_)
  · obtain ⟨a, xs, rfl, _⟩ := h
    rfl
  · obtain ⟨a, xs, rfl, ha, n9, hx, po, k⟩ := h
    have hr1 : Room 1 _ := hr.mono (by decide)
    have hu : ∀ {A : Around}, Room 0 A → A.units + 65 < cLine := fun r => by have := r.un; omega
    have hr0 : Room 0 _ := hr.mono (by decide)
    refine ⟨_, pss_cons (ps_par (i := 1) (j := 2) rfl scDue.nd rfl rfl (by decide) rfl rfl (pa_cons (pe_lst pa_nil) (pa_cons pe_non pa_nil)) rfl)
      (pss_cons (ps_for PassesOwn.never rfl (pi_enum (by rfl) T.enu (pa_cons (pv 0) pa_nil)) (pg_tup rfl (pgs_cons (pg_name (i := 3) scDue.nd rfl (Or.inl rfl)) (pgs_cons (pg_name (i := 4) scDue.nd rfl (Or.inl rfl)) pgs_nil)))
        (pss_cons (ps_set (i := 5) scDue.nd rfl (Or.inl rfl) (pe_call GR hr (by rfl) eR.g eR.k bR .nil pass0 (pa_cons (pv 4) pa_nil)))
        (pss_cons (ps_if (PW.pt (pw_or (pt_cmpR op_isN (pv 5) pe_non (nomark _)) (pw_or (PW.pt (pw_and (pt_cmpR op_eq (pe_ix ix_tup (pv 5) pe_int (fun _ _ => rfl)) pe_str (nomark _)) (pw_and1 (pt_cmpR op_notN (pv 2) pe_non (nomark _)))))
              (pw_or1 (pt_cmpR (op_inD (hu hr0)) (pe_ix ix_tup (pv 5) pe_int (fun _ _ => rfl)) (pv 1) rfl)))))
            (pss_one (ps_ret (pv 3))) pss_nil)
        (pss_one (ps_if (pt_cmpR op_eq (pe_ix ix_tup (pv 5) pe_int (fun _ _ => rfl)) pe_str (nomark _))
          (pss_one (ps_set (i := 2) scDue.nd rfl (Or.inl rfl) (pe_ix ix_tup (pv 5) pe_int (fun _ _ => rfl))))
          (pss_one (ps_expr (pe_bm PySem.F.plainAttrs_list PySem.F.slot_list_append PySem.F.type_list_append mt_append (pv 1) (pa_cons (pe_ix ix_tup (pv 5) pe_int (fun _ _ => rfl)) pa_nil)))))))))
      (pss_cons (ps_set (i := 6) scDue.nd rfl (Or.inl rfl) (pe_disp (pps_cons pe_str (pe_callB (cr_sortList hr.units) (by rfl) T.srt (by decide +kernel) (pa_cons (pv 1) pa_nil))
          (pps_cons pe_str (pe_imp (t' := tAskL) (pe_ifExp (pt_cmpR op_isN (pv 2) pe_non (nomark _)) (pe_lst pa_nil) (pe_callTy call_list_of (by rfl) T.list (by decide +kernel) (pa_cons (pv 2) pa_nil))) (fun σ H Q h => ?_)) pps_nil)) rfl rfl (by decide) (by decide)))
      (pss_cons (ps_asg (pe_tup (pa_cons (pe_call GC hr1 (by rfl) eC.g eC.k bC .nil pass0 (pa_cons (pv 6) pa_nil)) (pa_cons (pe_call GW hr1 (by rfl) eW.g eW.k bW .nil pass0 (pa_cons (pv 6) pa_nil)) pa_nil)))
          (pg_tup rfl (pgs_cons (pg_name (i := 7) scDue.nd rfl (Or.inr rfl)) (pgs_cons (pg_name (i := 8) scDue.nd rfl (Or.inr rfl)) pgs_nil))))
      (pss_cons (ps_if (PW.pt (pw_or (pt_not (pt_chain op_le op_le pe_int (pe_callB call_len_seq (by rfl) T.len PySem.boot_len (pa_cons (pv 1) pa_nil)) pe_int))
          (pw_or (pt_cmpR op_gt (pe_callB call_len_seq (by rfl) T.len PySem.boot_len (pa_cons (pv 7) pa_nil)) pe_int (nomark _))
          (pw_or1 (pt_cmpR (op_neD hr.units) (pe_lc (own := [("_law_one", 9)]) (g := gName 9) (by rfl) scDue.nd (pi_list (pe_dget (lt1 hr.units) (pv 6) pe_str (fun _ _ => rfl)))
            (blkOk_by (own := [("_law_one", 9)]) (N := nDue) (sc := defScope sDue) (by decide +kernel)) (fun _ _ _ _ _ => pg_name (i := 9) scDue.nd rfl (Or.inl rfl))
            (fun _ _ _ _ _ => pts_one (pt_cmpR (r := rIn K true) op_notIn_seq (pv 9) (pv 7) rfl)) (fun _ _ _ _ _ => pv 9)) (pe_lst pa_nil) (nomark _))))))
          (pss_one (ps_ret pe_str)) pss_nil)
      (pss_cons (ps_if (pt_cmpR (op_neD hr.units) (pe_lc (own := [("_law_clause", 10)]) (g := gName 10) (by rfl) scDue.nd (pi_list (pv 1))
            (blkOk_by (own := [("_law_clause", 10)]) (N := nDue) (sc := defScope sDue) (by decide +kernel)) (fun _ _ _ _ _ => pg_name (i := 10) scDue.nd rfl (Or.inl rfl))
            (fun _ _ _ _ _ => pts_one (pt_cmpR op_ne (pe_callB (id := "len") (r := rLenS K) call_len_seq (by rfl) T.len PySem.boot_len (pa_cons (pe_ix (r := rIxT K) ix_tup (pv 10) pe_int (fun _ _ => rfl)) pa_nil)) (pe_dget (lt1 hr.units) (pv 8) (pe_ix (r := rIxT K) ix_tup (pv 10) pe_int (fun _ _ => rfl)) (fun _ _ => rfl)) (nomark _))) (fun _ _ _ _ _ => pv 10)) (pe_lst pa_nil) (nomark _)) (pss_one (ps_ret pe_str)) pss_nil)
      (pss_one (ps_ret (pv 6)))))))), ?_⟩
    case refine_1 =>
      obtain ⟨av, o, ev, hav, kq⟩ := h
      refine ⟨av, ev, rfl, _, rfl, ?_⟩
      cases o with
      | none =>
        refine if_pos_of (decide_eq_true hav) ⟨by show 0 ≤ sizeLine; decide, fun la hla => kq la hla⟩
      | some l =>
        obtain ⟨u, e, hu⟩ := hav
        refine if_neg_of (decide_eq_false fun z => by rw [e] at z; cases z) ⟨av, ev, u, _, e ▸ rfl, .inr (SqT.of hu), fun la hla => kq la hla⟩
    refine ⟨by show 0 ≤ sizeLine; decide, fun lc hlc => ⟨_, _, rfl, ?_⟩⟩
    have s0 : Same H (upd H lc (.lst [])) := K0.Same.new _ hlc
    have nx : ∀ i, i < xs.length → (xs.map tl).drop i = tl (xs.getD i .non) :: (xs.map tl).drop (i + 1) := fun i hi => by
      have hi' : i < (xs.map tl).length := by rw [List.length_map]; exact hi
      rw [List.drop_eq_getElem_cons hi', List.getElem_map]
      simp [List.getD, hi]
    refine ⟨_, rfl, a, xs, rfl, s0.seq ha, for_walk (walk_enum (K := K) (a := a) (xs := xs)) (DueI a lc H (xs.map tl)) ?_ ?_ ?_ ?_⟩
    · exact ⟨none, none, none, none, .non, [], ([], none), rfl, s0, upd_same, .nil, rfl, rfl, PreF.nil, Nat.le_refl _, fun c h => by cases h⟩
    · rintro i σ H' _ ⟨_, v3, v4, v5, av, ts, s, _, sm, _⟩
      exact sm.seq ha
    · rintro i x σ H1 H2 hi ⟨_, v3, v4, v5, av, ts, s, rfl, sm, elc, hc, hask, run, pre, len, mem⟩ ⟨T, y, z, rfl, hT, rfl, hy, hz⟩
      have ez : xs.getD i .non = z := by simp [List.getD, hz]
      have zm := List.mem_of_getElem? hz
      obtain rfl : V.int (i : Nat) = y := Option.some.inj hy
      have sT := K0.Same.new (.tup [.int (i : Nat), z]) hT
      refine ⟨T, _, rfl, SqT.of upd_same, rfl, _, _, rfl, _, _, rfl, rfl, ?_⟩
      have hz2 := hx z zm
      refine ⟨_, rfl, z, rfl, hz2.1.same (K0.Same.tr sm sT), hz2.2, fun H3 r s3 toA => ?_⟩
      have st := K0.Same.tr sT s3
      have sm3 := K0.Same.tr sm st
      have elc3 := st _ _ elc
      have hc3 := hc.same st
      have hask3 := hask.same st
      have wl : (wds (lnO z)).length ≤ 1000 := Nat.le_trans (wds_len hz2.2) (by decide)
      have run1 := nx i hi
      rw [ez] at run1
      rw [run1] at run
      have notup : ∀ ys, H3 lc ≠ some (.tup ys) := fun ys e => by rw [elc3] at e; cases e
      clear hc hask
      have bad : stepF s (tl z) = none → Q (.int (i : Nat)) H3 := fun h => by
        rw [runF_none h] at run
        exact k H3 _ (.ix i) sm3 (ResR.ix run) rfl
      refine ⟨r, rfl, rfl, _, rfl, ?_⟩
      have toA' : ToA H3 r (tl z) := toA
      cases et : tl z with
      | none =>
        rw [et] at toA' bad
        obtain rfl : r = .non := toA'
        exact if_pos_of rfl ⟨_, rfl, bad rfl⟩
      | some tt =>
        rw [et] at toA' bad run
        have lay : ∀ c ∈ s.1, (dC c).canLay0 = true := fun c hc => dC_lay (nameS_ok (pre.tab c hc)) fun k hk => nameS_ok (pre.nam c hc k hk)
        have dpl : Dp K H3 (.ref lc) (.list (s.1.map dC)) := .lst (SqL.of elc3) hc3.dp
        cases tt with
        | cl c =>
          obtain ⟨t0, u, rfl, e1, hA⟩ := toA'
          have tc := toldW_cl (show toldW (wds (lnO z)) = some (.cl c) from et)
          refine if_neg_of rfl ?_
          refine ⟨_, rfl, t0, _, _, .str "clause", rfl, rfl, SqT.of e1, atI_nat (j := 0) rfl, rfl, _, rfl, if_neg_of (decide_eq_false fun z => ne_ca (by injection z)) (if_neg_of rfl ?_)⟩
          refine ⟨_, rfl, t0, _, _, .ref u, rfl, rfl, SqT.of e1, atI_nat (j := 1) rfl, _, rfl, dC c, s.1.map dC, hA.dp, dpl, dC_shaped (nameS_ok tc.1) (fun k hk => nameS_ok (tc.2.1 k hk)), dCs_shapedL lay, _, rfl, ?_⟩
          rw [any_dC]
          refine if_both (fun c1 => ?_) (fun c1 => ?_)
          · have c1 := of_decide_eq_true c1
            exact ⟨_, rfl, bad (by show (if c ∈ s.1 then none else _) = none; rw [if_pos c1])⟩
          · have c1 := of_decide_eq_false c1
            have es : stepF s (some (.cl c)) = some (s.1 ++ [c], s.2) := by show (if c ∈ s.1 then none else _) = _; rw [if_neg c1]
            refine ⟨_, rfl, t0, _, _, .str "clause", rfl, rfl, SqT.of e1, atI_nat (j := 0) rfl, rfl, _, rfl, if_neg_of (decide_eq_false fun z => ne_ca (by injection z)) ?_⟩
            refine ⟨_, rfl, .inl ⟨rfl, _, SqL.of elc3⟩, _, rfl, t0, _, _, .ref u, rfl, rfl, SqT.of e1, atI_nat (j := 1) rfl, lc, _, .ref u, rfl, rfl, elc3, by rw [List.length_map, hc3.len, sizeLine_eq]; omega, ?_⟩
            refine ⟨none, _, _, _, av, ts ++ [u], (s.1 ++ [c], s.2), rfl, fun b o e => ?_, ?_, Cls.snoc (hA.off notup) (hc3.off notup), hask3.off notup, ?_, pre.step wl (by rw [show toldW (wds (lnO z)) = some (.cl c) from et]; exact es), ?_, ?_⟩
            · rw [upd_ne (ne_of_none e hlc)]
              exact sm3 _ _ e
            · rw [upd_same, List.map_append]
              rfl
            · rw [run, runF_some es]
            · rw [List.length_append]
              exact Nat.succ_le_succ len
            · intro c' hc'
              rcases List.mem_append.mp hc' with m | m
              · exact mem c' m
              · rw [List.mem_singleton.mp m, ← et]
                exact List.mem_map.mpr ⟨z, zm, rfl⟩
        | as l =>
          obtain ⟨t0, u, rfl, e1, e2⟩ := toA'
          have tc := toldW_as (show toldW (wds (lnO z)) = some (.as l) from et)
          refine if_neg_of rfl ?_
          refine ⟨_, rfl, t0, _, _, .str "asked", rfl, rfl, SqT.of e1, atI_nat (j := 0) rfl, rfl, _, rfl, if_pos_of (decide_eq_true rfl) ?_⟩
          refine ⟨av, rfl, rfl, _, rfl, ?_⟩
          rw [hask3.non, Bool.not_not]
          cases ea : s.2 with
          | some l0 =>
            exact if_pos_of rfl ⟨_, rfl, bad (by show (if s.2.isSome = true then none else _) = none; rw [ea]; rfl)⟩
          | none =>
            refine if_neg_of rfl ?_
            refine ⟨_, rfl, t0, _, _, .ref u, rfl, rfl, SqT.of e1, atI_nat (j := 1) rfl, _, rfl, .tuple (l.map PyData.str), s.1.map dC, .tup (SqT.of e2) (dpAll_strs l), dpl, dStrs_shaped (fun k hk => nameS_ok (tc.2.1 k hk)), dCs_shapedL lay, _, rfl, ?_⟩
            rw [any_as]
            refine if_neg_of rfl ?_
            have es : stepF s (some (.as l)) = some (s.1, some l) := by show (if s.2.isSome = true then none else _) = _; rw [ea]; rfl
            refine ⟨_, rfl, t0, _, _, .str "asked", rfl, rfl, SqT.of e1, atI_nat (j := 0) rfl, rfl, _, rfl, if_pos_of (decide_eq_true rfl) ?_⟩
            refine ⟨_, rfl, t0, _, _, .ref u, rfl, rfl, SqT.of e1, atI_nat (j := 1) rfl, ?_⟩
            refine ⟨none, _, _, _, .ref u, ts, (s.1, some l), rfl, sm3, elc3, hc3, ⟨u, rfl, e2⟩, ?_, pre.step wl (by rw [show toldW (wds (lnO z)) = some (.as l) from et]; exact es), Nat.le_succ_of_le len, mem⟩
            rw [run, runF_some es]
    · rintro σ H1 ⟨_, v3, v4, v5, av, ts, s, rfl, sm, elc, hc, hask, run, pre, len, mem⟩
      have run' : runF 0 ([], none) (xs.map tl) = .inr s := by
        rw [run, List.drop_of_length_le (by rw [List.length_map]; exact Nat.le_refl _)]
        rfl
      intro p hp
      have sp := K0.Same.new (.dK []) hp
      have hcp := hc.same sp
      obtain ⟨r1, r2, r3⟩ := rowsC_all hcp
      refine ⟨_, rfl, lc, rowsC ts s.1, 2, rfl, ?_, ?_, lined_cls fun m hm => (r3 m hm).imp fun c h => h.1, fun M d pm pw hd => ?_⟩
      · have e : (rowsC ts s.1).map (fun m => V.ref m.1) = ts.map V.ref := by
          have z := congrArg (List.map V.ref) r1
          rw [List.map_map] at z
          exact z
        rw [e]
        exact SqL.of (sp _ _ elc)
      · intro m hm
        obtain ⟨c, e, hA⟩ := r3 m hm
        have z := hA.kr (K := K)
        rw [← e] at z
        exact z
      obtain ⟨cs', hc', up, mm⟩ := sorted_cls hcp pre.dif pm pw
      have ml := sorted_len hcp pm
      have eM : M.map (fun m => V.ref m.1) = (M.map (·.1)).map V.ref := by rw [List.map_map]; rfl
      rw [eM]
      have lt : (M.map (·.1)).length = s.1.length := by rw [List.length_map]; exact ml
      generalize M.map (·.1) = ts' at hc' lt ⊢
      have lcs : cs'.length = s.1.length := by rw [← hc'.len]; exact lt
      have pq := pre_q po pre (by omega) mem lcs up mm
      have sd := K0.Same.new (.lst (ts'.map V.ref)) hd
      have ndp : d ≠ p := fun z => by rw [z, upd_same] at hd; cases hd
      refine ⟨av, s.2, rfl, (hask.same sp).same sd, fun la hla => ?_⟩
      have sl := K0.Same.new (.lst ((s.2.getD []).map V.str)) hla
      have ed : upd (upd H1 p (.dK [])) d (.lst (ts'.map V.ref)) p = some (.dK []) := by rw [upd_ne (Ne.symm ndp)]; exact upd_same
      have nlp : la ≠ p := fun z => by rw [z, ed] at hla; cases hla
      have nld : la ≠ d := fun z => by rw [z, upd_same] at hla; cases hla
      refine ⟨sl _ _ ed, [(Sum.inr "clauses", .ref d), (Sum.inr "asked", .ref la)], rfl, by show 2 ≤ 15; decide, ?_⟩
      generalize hq : PQ.mk cs' (s.2.getD []) = q at pq
      have sfin : Same H1 (upd (upd (upd (upd H1 p (.dK [])) d (.lst (ts'.map V.ref))) la (.lst ((s.2.getD []).map V.str))) p (.dK [(Sum.inr "clauses", .ref d), (Sum.inr "asked", .ref la)])) := fun b o e => by
        rw [upd_ne (ne_of_none e hp)]
        exact sl _ _ (sd _ _ (sp _ _ e))
      have pl : PlA (upd (upd (upd (upd H1 p (.dK [])) d (.lst (ts'.map V.ref))) la (.lst ((s.2.getD []).map V.str))) p (.dK [(Sum.inr "clauses", .ref d), (Sum.inr "asked", .ref la)])) p q := by
        rw [← hq]
        refine ⟨d, la, ts', upd_same, by rw [upd_ne ndp, upd_ne (Ne.symm nld)]; exact upd_same, ((hc'.same sd).same sl).off fun ys z => ?_, by rw [upd_ne nlp]; exact upd_same⟩
        rw [sl _ _ ed] at z
        cases z
      have em : mergeK [] [((Sum.inr "clauses" : Key), V.ref d), (Sum.inr "asked", .ref la)] = [((Sum.inr "clauses" : Key), V.ref d), (Sum.inr "asked", .ref la)] := rfl
      rw [em]
      generalize upd (upd (upd (upd H1 p (.dK [])) d (.lst (ts'.map V.ref))) la (.lst ((s.2.getD []).map V.str))) p (.dK [(Sum.inr "clauses", .ref d), (Sum.inr "asked", .ref la)]) = H2 at sfin pl ⊢
      clear ed nlp nld sl hla sd hd ndp sp hp hcp r1 r2 r3 pm pw hc' ml eM lt
      have qc : q.cls = cs' := by rw [← hq]
      have qa : q.asked = s.2.getD [] := by rw [← hq]
      refine ⟨_, rfl, p, q, rfl, pl, pq.c.toSmol, fun ns l3 H3 ic s3 hl3 el3 => ?_⟩
      refine ⟨_, rfl, p, q, rfl, pl.same s3, by rw [qc, lcs]; omega, fun a4 kvs H4 s4 ha4 ea4 wd => ?_⟩
      refine ⟨by show 2 ≤ sizeLine; decide, fun T5 hT5 => ⟨T5, _, rfl, SqT.of upd_same, rfl, _, _, rfl, _, _, rfl, rfl, ?_⟩⟩
      have s5 := K0.Same.new (.tup [.ref l3, .ref a4]) hT5
      obtain ⟨d, la, ts', h1, h2, h3, h4⟩ := pl
      have s25 := K0.Same.tr s3 (K0.Same.tr s4 s5)
      have el5 := s5 _ _ (s4 _ _ el3)
      have ea5 := s5 _ _ ea4
      have elc5 := s25 _ _ (sfin _ _ elc)
      have hc5 := hc.same (K0.Same.tr sfin s25)
      have pl5 : PlA (upd H4 T5 (.tup [.ref l3, .ref a4])) p q := PlA.same ⟨d, la, ts', h1, h2, h3, h4⟩ s25
      have sm5 := K0.Same.tr sm (K0.Same.tr sfin s25)
      have h15 := s25 _ _ h1
      have h45 := s25 _ _ h4
      clear ea4 el3 elc s3 s4 s5 ha4 hl3 hT5 sfin hask h1 h2 h3 h4 hc s25
      generalize upd H4 T5 (.tup [.ref l3, .ref a4]) = H5 at *
      have qres : ∀ H', Same H5 H' → ¬ WfQ q → Q (.str "question") H' := fun H' s' no => k H' _ .qu (K0.Same.tr sm5 s') (ResR.qu run' up mm (by rw [hq]; exact no)) rfl
      dsimp only
      refine ⟨_, rfl, lc, _, rfl, .inl (SqL.of elc5), _, _, rfl, rfl, _, rfl, ?_⟩
      rw [List.length_map, hc5.len]
      refine if_both (fun c1 => ?_) (fun c1 => ?_)
      case refine_2 =>
        refine ⟨_, rfl, if_pos_of rfl (qres H5 K0.Same.rfl' fun z => ?_)⟩
        have := List.length_pos_iff.mpr z.c.some_
        have := of_decide_eq_false c1
        rw [qc, lcs] at *
        omega
      have c1 := of_decide_eq_true c1
      refine ⟨_, _, rfl, rfl, _, rfl, ?_⟩
      by_cases c2 : (s.1.length : Int) ≤ 8
      case neg =>
        rw [decide_eq_false c2]
        refine if_pos_of rfl (qres H5 K0.Same.rfl' fun z => ?_)
        have := z.c.few
        rw [qc, lcs] at this
        omega
      rw [decide_eq_true c2]
      refine if_neg_of rfl ?_
      refine ⟨_, rfl, l3, _, rfl, .inl (SqL.of el5), _, _, rfl, rfl, _, rfl, ?_⟩
      rw [List.length_map]
      refine if_both (fun c3 => ?_) (fun c3 => ?_)
      · refine qres H5 K0.Same.rfl' fun z => ?_
        have := z.c.ncols ic
        have := of_decide_eq_true c3
        omega
      have c3 := of_decide_eq_false c3
      have al := pq.len
      refine ⟨_, rfl, p, V.ref la, rfl, DGet.k (k := Sum.inr "asked") h15, la, rfl, ⟨_, SqL.of h45⟩, fun D hD => lc_sieve (f := fun i => .str (q.asked.getD i "")) (keep := fun i => !decide (q.asked.getD i "" ∈ ns)) (walk_list (K := K) (a := la) (xs := q.asked.map V.str)) (by rw [List.length_map, sizeLine_eq]; omega) hD (fun H2 s2 => SqL.of (s2 _ _ h45)) ?_ gName_mono ?_⟩
      · rintro i x H6 H7 hi s6 ⟨rfl, hx⟩
        rw [List.getElem?_map] at hx
        obtain ⟨z, hzz, rfl⟩ := Option.map_eq_some_iff.mp hx
        have ezz : q.asked.getD i "" = z := by simp [List.getD, hzz]
        rw [ezz]
        refine ⟨rfl, fun R q => ⟨_, rfl, _, rfl, l3, _, rfl, .inl (SqL.of (s6 _ _ el5)), rfl, flat_strs ns, _, rfl, ?_⟩, fun H8 Q' s8 q => ⟨_, rfl, q H8 K0.Same.rfl'⟩⟩
        have q' := q _ K0.Same.rfl'
        rw [← inV_strs] at q'
        exact q'
      intro H6 s6 hD6
      rw [List.length_map] at hD6
      have efl : ((List.range q.asked.length).filter fun i => !decide (q.asked.getD i "" ∈ ns)).map (fun i => V.str (q.asked.getD i "")) = (((List.range q.asked.length).filter fun i => !decide (q.asked.getD i "" ∈ ns)).map fun i => q.asked.getD i "").map V.str := by rw [List.map_map]; rfl
      rw [efl] at hD6
      refine ⟨Nat.zero_le _, fun e he => ?_⟩
      have nde : D ≠ e := ne_of_none hD6 he
      have s7 := K0.Same.tr s6 (K0.Same.new (.lst []) he)
      refine ⟨.list ((((List.range q.asked.length).filter fun i => !decide (q.asked.getD i "" ∈ ns)).map fun i => q.asked.getD i "").map PyData.str), .list [], .lst (SqL.of (by rw [upd_ne nde]; exact hD6)) (dpAll_strs _), .lst (SqL.of upd_same) .nil, dStrs_shapedL ?_, rfl, _, rfl, ?_⟩
      · intro y hy
        obtain ⟨i, hi, rfl⟩ := List.mem_map.mp hy
        have hi' := List.mem_range.mp (List.mem_filter.mp hi).1
        have e : q.asked.getD i "" = q.asked[i] := by simp [List.getD, hi']
        rw [e]
        exact nameS_ok (pq.nam _ (List.getElem_mem hi'))
      rw [eqv_nil, List.isEmpty_map, List.isEmpty_map, none_left fun i => decide (q.asked.getD i "" ∈ ns), all_in q.asked fun k => decide (k ∈ ns)]
      refine if_both (fun c4 => ?_) (fun c4 => ?_)
      · refine qres _ s7 fun z => ?_
        have z4 : (q.asked.all fun k => decide (k ∈ ns)) = true := List.all_eq_true.mpr fun k hk => decide_eq_true ((ic.2.2 k).mpr (z.ask k hk))
        rw [z4] at c4
        cases c4
      have c4' : (q.asked.all fun k => decide (k ∈ ns)) = true := by
        cases h : q.asked.all fun k => decide (k ∈ ns) with
        | true => rfl
        | false => rw [h] at c4; cases c4
      have elc7 := s7 _ _ elc5
      have hc7 := hc5.same s7
      have ea7 := s7 _ _ ea5
      clear hD6 efl nde he hD s6 c4
      generalize upd H6 e (.lst []) = H7 at *
      have wfS : WfQ q ↔ ((List.range s.1.length).map (widK kvs s.1)).all id = true := by
        have wd' : WidD kvs cs' := by rw [← qc]; exact wd
        rw [widK_all wd' mm, ← qc]
        constructor
        · exact fun z => z.c.same
        · exact fun z => ⟨pq.c.wf ic (by rw [qc, lcs]; omega) (by rw [qc, lcs]; omega) (by omega) z, pq.nd, fun k hk => (ic.2.2 k).mp (of_decide_eq_true (List.all_eq_true.mp c4' k hk))⟩
      refine ⟨_, rfl, lc, rfl, ⟨_, SqL.of elc7⟩, fun D hD => lc_sieve (f := fun i => .ref (ts.getD i 0)) (keep := fun i => !widK kvs s.1 i) (walk_list (K := K) (a := lc) (xs := ts.map V.ref)) (by rw [List.length_map, hc7.len, sizeLine_eq]; omega) hD (fun H2 s2 => SqL.of (s2 _ _ elc7)) ?_ gName_mono ?_⟩
      · rintro i x H8 H9 hi s8 ⟨rfl, hx⟩
        rw [List.getElem?_map] at hx
        obtain ⟨t, ht, rfl⟩ := Option.map_eq_some_iff.mp hx
        obtain ⟨hti, et⟩ := List.getElem?_eq_some_iff.mp ht
        obtain ⟨c, hci, hA⟩ := hc7.at_ i hti
        rw [et] at hA
        have ec : s.1.getD i ("", []) = c := by simp [List.getD, hci]
        have et2 : ts.getD i 0 = t := by simp [List.getD, ht]
        obtain ⟨t2, g1, g2⟩ := hA.same s8
        obtain ⟨c', m1, m2, m3⟩ := wd c (by rw [qc]; exact (mm c).mpr (List.mem_of_getElem? hci))
        rw [et2]
        refine ⟨rfl, fun R q => ?_, fun H10 Q' s10 q => ⟨_, rfl, q H10 K0.Same.rfl'⟩⟩
        have dg : DGet H9 a4 (V.str c.1) (some (V.int c'.2.length)) := by
          rw [← m3]
          exact DGet.k (k := Sum.inr c.1) (s8 _ _ ea7)
        refine ⟨_, rfl, t, _, _, .ref t2, rfl, rfl, SqT.of g1, atI_nat (j := 1) rfl, t2, _, rfl, .inr (SqT.of g2), _, rfl, _, rfl, t, _, _, .str c.1, rfl, rfl, SqT.of g1, atI_nat (j := 0) rfl, a4, V.int c'.2.length, rfl, dg, rfl, _, rfl, ?_⟩
        have q' := q _ K0.Same.rfl'
        unfold widK at q'
        rw [ec, m3] at q'
        rw [List.length_map]
        have e : decide (V.int (c.2.length : Int) = V.int (c'.2.length : Int)) = decide (some (V.int (c.2.length : Int)) = some (V.int (c'.2.length : Int))) := decide_eq_decide.mpr ⟨fun z => by rw [z], fun z => by injection z⟩
        rw [e]
        exact q'
      intro H8 s8 hD8
      rw [List.length_map, hc7.len] at hD8
      refine ⟨Nat.zero_le _, fun e he => ?_⟩
      have nde : D ≠ e := ne_of_none hD8 he
      have s9 := K0.Same.tr s8 (K0.Same.new (.lst []) he)
      have lay : ∀ c ∈ s.1, (dC c).canLay0 = true := fun c hc => dC_lay (nameS_ok (pre.tab c hc)) fun k hk => nameS_ok (pre.nam c hc k hk)
      have inI : ∀ i ∈ (List.range s.1.length).filter fun i => !widK kvs s.1 i, i < s.1.length := fun i hi => List.mem_range.mp (List.mem_filter.mp hi).1
      have eds : (((List.range s.1.length).filter fun i => !widK kvs s.1 i).map fun i => dC (s.1.getD i ("", []))) = (((List.range s.1.length).filter fun i => !widK kvs s.1 i).map fun i => s.1.getD i ("", [])).map dC := by rw [List.map_map]; rfl
      refine ⟨.list (((List.range s.1.length).filter fun i => !widK kvs s.1 i).map fun i => dC (s.1.getD i ("", []))), .list [], .lst (SqL.of (by rw [upd_ne nde]; exact hD8)) (dp_cls (hc7.same s9) _ inI), .lst (SqL.of upd_same) .nil, ?_, rfl, _, rfl, ?_⟩
      · rw [eds]
        refine dCs_shapedL fun c hc => ?_
        obtain ⟨i, hi, rfl⟩ := List.mem_map.mp hc
        exact lay _ (getD_mem (inI i hi))
      rw [eqv_nil, List.isEmpty_map, none_left (widK kvs s.1)]
      have s79 := K0.Same.tr s7 s9
      refine if_both (fun c5 => ?_) (fun c5 => ?_)
      · refine qres _ s79 fun z => ?_
        rw [wfS.mp z] at c5
        cases c5
      have wf : WfQ q := by
        refine wfS.mpr ?_
        cases h : ((List.range s.1.length).map (widK kvs s.1)).all id with
        | true => rfl
        | false => rw [h] at c5; cases c5
      refine ⟨_, rfl, k _ _ (.pl q) (K0.Same.tr sm5 s79) ?_ ⟨p, rfl, pl5.same s79⟩⟩
      rw [← hq]
      exact ResR.pl run' up mm (by rw [hq]; exact wf)
end
end K0

/-! ## X11 -/
set_option maxRecDepth 100000
set_option maxHeartbeats 8000000
namespace K0
open PySem L2 NS RZ ClX
/-! ### the question of some lines -/
abbrev sLined : Stmt := top 44
def spLined (K : PySem.W.Frag) (C CP CQ : Addr) : Sp := fun vs H Q E => ∃ (a : Addr) (xs : List V), vs = [.ref a] ∧ SqL K H a xs ∧ xs.length ≤ 9 ∧ (∀ x ∈ xs, Da H x ∧ ShT x) ∧ PoolOk (xs.map tl) ∧ ∀ r, ResR (xs.map tl) r → Then K C CP CQ H Q E r
structure TLi (mg : Str → Option Value) : Prop where
  list : mg "list" = none
  len : mg "len" = none
section
variable {P : Program} {w : World} {K : PySem.W.Frag} {mg : Str → Option Value} {base : Heap} {C CP CQ : Addr}
abbrev nLined : List Str := ["_law_lines", "_law_a", "_law_b", "_law_c", "_law_d", "_law_e", "_law_f", "_law_g", "_law_h", "_law_i"]
theorem scLined : FnScope nLined ["_law_lines"] (defScope sLined) := ⟨rfl, rfl, rfl, by decide +kernel, rfl, by decide +kernel, by decide +kernel⟩
theorem ok_lined {f : Addr} {fd : FuncData} (F : Fun K "_law_lined_question" "_law_lined_question" sLined f fd) (T : TLi mg) (gQ : mg "Question" = some (.ref C)) {mc : Value} {pp g : Addr} (rd : CRead K C mc) (cm : CMet K C mc "from_lines" pp g)
    (FR : FnR P w K mg base (L2.CX P w) 8 g (spFrom K C CP CQ)) : FnOk P w K mg base (L2.CX P w) 9 f fd ["_law_lines"] (spLined K C CP CQ) := by
  refine F.okX scLined (fun vs H Q E h => ?_) (fun cdv A outer s H vs Q E hr h => ?_)
  · obtain ⟨a, xs, rfl, _⟩ := h
    rfl
  · obtain ⟨a, xs, rfl, ha, n9, hx, po, k⟩ := h
    have hr8 : Room 8 _ := hr.mono (by decide)
    refine ⟨_, pss_cons (ps_asg (pe_slice sl_list (pe_op op_cat (pe_callTy call_list_of (by rfl) T.list (by decide +kernel) (pa_cons (pv 0) pa_nil)) (pe_op op_rep (pe_lst (pa_cons pe_non pa_nil)) pe_int)) po_none (po_some pe_int)) (pg_lst rfl (pgs_cons (pg_name (i := 1) scLined.nd rfl (Or.inl rfl)) (pgs_cons (pg_name (i := 2) scLined.nd rfl (Or.inl rfl)) (pgs_cons (pg_name (i := 3) scLined.nd rfl (Or.inl rfl)) (pgs_cons (pg_name (i := 4) scLined.nd rfl (Or.inl rfl)) (pgs_cons (pg_name (i := 5) scLined.nd rfl (Or.inl rfl)) (pgs_cons (pg_name (i := 6) scLined.nd rfl (Or.inl rfl)) (pgs_cons (pg_name (i := 7) scLined.nd rfl (Or.inl rfl)) (pgs_cons (pg_name (i := 8) scLined.nd rfl (Or.inl rfl)) (pgs_cons (pg_name (i := 9) scLined.nd rfl (Or.inl rfl)) pgs_nil)))))))))))
      (pss_cons (ps_if (pt_cmpR op_lt (pe_callB call_len_seq (by rfl) T.len PySem.boot_len (pa_cons (pv 0) pa_nil)) pe_int (nomark _)) (pss_one (ps_ret (pe_ifExp (pt_cmpR op_eq (pe_callB call_len_seq (by rfl) T.len PySem.boot_len (pa_cons (pv 0) pa_nil)) pe_int (nomark _)) (pe_cmeth (pe_glob (v := .ref C) (by rfl) gQ rfl) rd cm FR hr8 (passes_call (takes_of rfl rfl rfl rfl) fun _ _ _ _ h => h) (pa_cons (pv 1) pa_nil)) (pe_cmeth0 (pe_glob (v := .ref C) (by rfl) gQ rfl) rd cm FR hr8 (passes_call (takes_of rfl rfl rfl rfl) fun _ _ _ _ h => h))))) pss_nil)
      (pss_cons (ps_if (pt_cmpR op_eq (pe_callB call_len_seq (by rfl) T.len PySem.boot_len (pa_cons (pv 0) pa_nil)) pe_int (nomark _)) (pss_one (ps_ret (pe_cmeth (pe_glob (v := .ref C) (by rfl) gQ rfl) rd cm FR hr8 (passes_call (takes_of rfl rfl rfl rfl) fun _ _ _ _ h => h) (pa_cons (pv 1) (pa_cons (pv 2) pa_nil))))) pss_nil)
      (pss_cons (ps_if (pt_cmpR op_eq (pe_callB call_len_seq (by rfl) T.len PySem.boot_len (pa_cons (pv 0) pa_nil)) pe_int (nomark _)) (pss_one (ps_ret (pe_cmeth (pe_glob (v := .ref C) (by rfl) gQ rfl) rd cm FR hr8 (passes_call (takes_of rfl rfl rfl rfl) fun _ _ _ _ h => h) (pa_cons (pv 1) (pa_cons (pv 2) (pa_cons (pv 3) pa_nil)))))) pss_nil)
      (pss_cons (ps_if (pt_cmpR op_eq (pe_callB call_len_seq (by rfl) T.len PySem.boot_len (pa_cons (pv 0) pa_nil)) pe_int (nomark _)) (pss_one (ps_ret (pe_cmeth (pe_glob (v := .ref C) (by rfl) gQ rfl) rd cm FR hr8 (passes_call (takes_of rfl rfl rfl rfl) fun _ _ _ _ h => h) (pa_cons (pv 1) (pa_cons (pv 2) (pa_cons (pv 3) (pa_cons (pv 4) pa_nil))))))) pss_nil)
      (pss_cons (ps_if (pt_cmpR op_eq (pe_callB call_len_seq (by rfl) T.len PySem.boot_len (pa_cons (pv 0) pa_nil)) pe_int (nomark _)) (pss_one (ps_ret (pe_cmeth (pe_glob (v := .ref C) (by rfl) gQ rfl) rd cm FR hr8 (passes_call (takes_of rfl rfl rfl rfl) fun _ _ _ _ h => h) (pa_cons (pv 1) (pa_cons (pv 2) (pa_cons (pv 3) (pa_cons (pv 4) (pa_cons (pv 5) pa_nil)))))))) pss_nil)
      (pss_cons (ps_if (pt_cmpR op_eq (pe_callB call_len_seq (by rfl) T.len PySem.boot_len (pa_cons (pv 0) pa_nil)) pe_int (nomark _)) (pss_one (ps_ret (pe_cmeth (pe_glob (v := .ref C) (by rfl) gQ rfl) rd cm FR hr8 (passes_call (takes_of rfl rfl rfl rfl) fun _ _ _ _ h => h) (pa_cons (pv 1) (pa_cons (pv 2) (pa_cons (pv 3) (pa_cons (pv 4) (pa_cons (pv 5) (pa_cons (pv 6) pa_nil))))))))) pss_nil)
      (pss_cons (ps_if (pt_cmpR op_eq (pe_callB call_len_seq (by rfl) T.len PySem.boot_len (pa_cons (pv 0) pa_nil)) pe_int (nomark _)) (pss_one (ps_ret (pe_cmeth (pe_glob (v := .ref C) (by rfl) gQ rfl) rd cm FR hr8 (passes_call (takes_of rfl rfl rfl rfl) fun _ _ _ _ h => h) (pa_cons (pv 1) (pa_cons (pv 2) (pa_cons (pv 3) (pa_cons (pv 4) (pa_cons (pv 5) (pa_cons (pv 6) (pa_cons (pv 7) pa_nil)))))))))) pss_nil)
      (pss_cons (ps_if (pt_cmpR op_eq (pe_callB call_len_seq (by rfl) T.len PySem.boot_len (pa_cons (pv 0) pa_nil)) pe_int (nomark _)) (pss_one (ps_ret (pe_cmeth (pe_glob (v := .ref C) (by rfl) gQ rfl) rd cm FR hr8 (passes_call (takes_of rfl rfl rfl rfl) fun _ _ _ _ h => h) (pa_cons (pv 1) (pa_cons (pv 2) (pa_cons (pv 3) (pa_cons (pv 4) (pa_cons (pv 5) (pa_cons (pv 6) (pa_cons (pv 7) (pa_cons (pv 8) pa_nil))))))))))) pss_nil)
      (pss_one (ps_ret (pe_cmeth (pe_glob (v := .ref C) (by rfl) gQ rfl) rd cm FR hr8 (passes_call (takes_of rfl rfl rfl rfl) fun _ _ _ _ h => h) (pa_cons (pv 1) (pa_cons (pv 2) (pa_cons (pv 3) (pa_cons (pv 4) (pa_cons (pv 5) (pa_cons (pv 6) (pa_cons (pv 7) (pa_cons (pv 8) (pa_cons (pv 9) pa_nil)))))))))))))))))))), ?_⟩
    refine ⟨_, rfl, a, xs, rfl, .inl ha, fun l hl => ⟨by show 1 ≤ sizeLine; decide, fun m hm => ?_⟩⟩
    have s1 := K0.Same.new (.lst xs) hl
    have s2 := K0.Same.new (.lst [.non]) hm
    refine ⟨m, 9, [.non], rfl, rfl, upd_same, by decide, by decide, by show 1 * 9 ≤ sizeLine; rw [sizeLine_eq]; decide, fun m2 hm2 => ?_⟩
    have s3 := K0.Same.new (.lst (List.replicate (9 : Int).toNat [V.non]).flatten) hm2
    refine ⟨l, m2, xs, _, rfl, rfl, s3 _ _ (s2 _ _ upd_same), upd_same, by show xs.length + 9 ≤ sizeLine; rw [sizeLine_eq]; omega, fun c hc => ?_⟩
    have s4 := K0.Same.new (.lst (xs ++ (List.replicate (9 : Int).toNat [V.non]).flatten)) hc
    refine ⟨9, rfl, c, _, rfl, SqL.of upd_same, fun d hd => ?_⟩
    have s5 := K0.Same.new (.lst (cutV (xs ++ (List.replicate (9 : Int).toNat [V.non]).flatten) none (some 9))) hd
    have sF := K0.Same.tr s1 (K0.Same.tr s2 (K0.Same.tr s3 (K0.Same.tr s4 s5)))
    have kF : ∀ r, ResR (xs.map tl) r → Then K C CP CQ _ Q E r := fun r hr => (k r hr).same sF
    have hxF : ∀ x ∈ xs, Da _ x ∧ ShT x := fun x m => ⟨(hx x m).1.same sF, (hx x m).2⟩
    have haF := sF.seq ha
    refine ⟨d, _, rfl, SqL.of upd_same, ?_⟩
    clear s1 s2 s3 s4 s5 k hx ha hl hm hm2 hc
    rcases xs with _ | ⟨x1, _ | ⟨x2, _ | ⟨x3, _ | ⟨x4, _ | ⟨x5, _ | ⟨x6, _ | ⟨x7, _ | ⟨x8, _ | ⟨x9, _ | ⟨x10, xs⟩⟩⟩⟩⟩⟩⟩⟩⟩⟩
    · refine ⟨rfl, _, _, rfl, _, _, rfl, _, _, rfl, _, _, rfl, _, _, rfl, _, _, rfl, _, _, rfl, _, _, rfl, _, _, rfl, rfl, ?_⟩
      refine ⟨_, rfl, a, _, rfl, .inl haF, _, _, rfl, rfl, _, rfl, if_pos_of rfl ?_⟩
      refine ⟨_, rfl, a, _, rfl, .inl haF, rfl, _, rfl, if_neg_of rfl ?_⟩
      exact ⟨rfl, [], rfl, n9, hxF, po, kF⟩
    · refine ⟨rfl, _, _, rfl, _, _, rfl, _, _, rfl, _, _, rfl, _, _, rfl, _, _, rfl, _, _, rfl, _, _, rfl, _, _, rfl, rfl, ?_⟩
      refine ⟨_, rfl, a, _, rfl, .inl haF, _, _, rfl, rfl, _, rfl, if_pos_of rfl ?_⟩
      refine ⟨_, rfl, a, _, rfl, .inl haF, rfl, _, rfl, if_pos_of rfl ?_⟩
      exact ⟨rfl, _, rfl, [x1], rfl, n9, hxF, po, kF⟩
    · refine ⟨rfl, _, _, rfl, _, _, rfl, _, _, rfl, _, _, rfl, _, _, rfl, _, _, rfl, _, _, rfl, _, _, rfl, _, _, rfl, rfl, ?_⟩
      refine ⟨_, rfl, a, _, rfl, .inl haF, _, _, rfl, rfl, _, rfl, if_neg_of rfl ?_⟩
      refine ⟨_, rfl, a, _, rfl, .inl haF, rfl, _, rfl, if_pos_of rfl ?_⟩
      exact ⟨rfl, _, rfl, _, rfl, [x1, x2], rfl, n9, hxF, po, kF⟩
    · refine ⟨rfl, _, _, rfl, _, _, rfl, _, _, rfl, _, _, rfl, _, _, rfl, _, _, rfl, _, _, rfl, _, _, rfl, _, _, rfl, rfl, ?_⟩
      refine ⟨_, rfl, a, _, rfl, .inl haF, _, _, rfl, rfl, _, rfl, if_neg_of rfl ?_⟩
      refine ⟨_, rfl, a, _, rfl, .inl haF, rfl, _, rfl, if_neg_of rfl ?_⟩
      refine ⟨_, rfl, a, _, rfl, .inl haF, rfl, _, rfl, if_pos_of rfl ?_⟩
      exact ⟨rfl, _, rfl, _, rfl, _, rfl, [x1, x2, x3], rfl, n9, hxF, po, kF⟩
    · refine ⟨rfl, _, _, rfl, _, _, rfl, _, _, rfl, _, _, rfl, _, _, rfl, _, _, rfl, _, _, rfl, _, _, rfl, _, _, rfl, rfl, ?_⟩
      refine ⟨_, rfl, a, _, rfl, .inl haF, _, _, rfl, rfl, _, rfl, if_neg_of rfl ?_⟩
      refine ⟨_, rfl, a, _, rfl, .inl haF, rfl, _, rfl, if_neg_of rfl ?_⟩
      refine ⟨_, rfl, a, _, rfl, .inl haF, rfl, _, rfl, if_neg_of rfl ?_⟩
      refine ⟨_, rfl, a, _, rfl, .inl haF, rfl, _, rfl, if_pos_of rfl ?_⟩
      exact ⟨rfl, _, rfl, _, rfl, _, rfl, _, rfl, [x1, x2, x3, x4], rfl, n9, hxF, po, kF⟩
    · refine ⟨rfl, _, _, rfl, _, _, rfl, _, _, rfl, _, _, rfl, _, _, rfl, _, _, rfl, _, _, rfl, _, _, rfl, _, _, rfl, rfl, ?_⟩
      refine ⟨_, rfl, a, _, rfl, .inl haF, _, _, rfl, rfl, _, rfl, if_neg_of rfl ?_⟩
      refine ⟨_, rfl, a, _, rfl, .inl haF, rfl, _, rfl, if_neg_of rfl ?_⟩
      refine ⟨_, rfl, a, _, rfl, .inl haF, rfl, _, rfl, if_neg_of rfl ?_⟩
      refine ⟨_, rfl, a, _, rfl, .inl haF, rfl, _, rfl, if_neg_of rfl ?_⟩
      refine ⟨_, rfl, a, _, rfl, .inl haF, rfl, _, rfl, if_pos_of rfl ?_⟩
      exact ⟨rfl, _, rfl, _, rfl, _, rfl, _, rfl, _, rfl, [x1, x2, x3, x4, x5], rfl, n9, hxF, po, kF⟩
    · refine ⟨rfl, _, _, rfl, _, _, rfl, _, _, rfl, _, _, rfl, _, _, rfl, _, _, rfl, _, _, rfl, _, _, rfl, _, _, rfl, rfl, ?_⟩
      refine ⟨_, rfl, a, _, rfl, .inl haF, _, _, rfl, rfl, _, rfl, if_neg_of rfl ?_⟩
      refine ⟨_, rfl, a, _, rfl, .inl haF, rfl, _, rfl, if_neg_of rfl ?_⟩
      refine ⟨_, rfl, a, _, rfl, .inl haF, rfl, _, rfl, if_neg_of rfl ?_⟩
      refine ⟨_, rfl, a, _, rfl, .inl haF, rfl, _, rfl, if_neg_of rfl ?_⟩
      refine ⟨_, rfl, a, _, rfl, .inl haF, rfl, _, rfl, if_neg_of rfl ?_⟩
      refine ⟨_, rfl, a, _, rfl, .inl haF, rfl, _, rfl, if_pos_of rfl ?_⟩
      exact ⟨rfl, _, rfl, _, rfl, _, rfl, _, rfl, _, rfl, _, rfl, [x1, x2, x3, x4, x5, x6], rfl, n9, hxF, po, kF⟩
    · refine ⟨rfl, _, _, rfl, _, _, rfl, _, _, rfl, _, _, rfl, _, _, rfl, _, _, rfl, _, _, rfl, _, _, rfl, _, _, rfl, rfl, ?_⟩
      refine ⟨_, rfl, a, _, rfl, .inl haF, _, _, rfl, rfl, _, rfl, if_neg_of rfl ?_⟩
      refine ⟨_, rfl, a, _, rfl, .inl haF, rfl, _, rfl, if_neg_of rfl ?_⟩
      refine ⟨_, rfl, a, _, rfl, .inl haF, rfl, _, rfl, if_neg_of rfl ?_⟩
      refine ⟨_, rfl, a, _, rfl, .inl haF, rfl, _, rfl, if_neg_of rfl ?_⟩
      refine ⟨_, rfl, a, _, rfl, .inl haF, rfl, _, rfl, if_neg_of rfl ?_⟩
      refine ⟨_, rfl, a, _, rfl, .inl haF, rfl, _, rfl, if_neg_of rfl ?_⟩
      refine ⟨_, rfl, a, _, rfl, .inl haF, rfl, _, rfl, if_pos_of rfl ?_⟩
      exact ⟨rfl, _, rfl, _, rfl, _, rfl, _, rfl, _, rfl, _, rfl, _, rfl, [x1, x2, x3, x4, x5, x6, x7], rfl, n9, hxF, po, kF⟩
    · refine ⟨rfl, _, _, rfl, _, _, rfl, _, _, rfl, _, _, rfl, _, _, rfl, _, _, rfl, _, _, rfl, _, _, rfl, _, _, rfl, rfl, ?_⟩
      refine ⟨_, rfl, a, _, rfl, .inl haF, _, _, rfl, rfl, _, rfl, if_neg_of rfl ?_⟩
      refine ⟨_, rfl, a, _, rfl, .inl haF, rfl, _, rfl, if_neg_of rfl ?_⟩
      refine ⟨_, rfl, a, _, rfl, .inl haF, rfl, _, rfl, if_neg_of rfl ?_⟩
      refine ⟨_, rfl, a, _, rfl, .inl haF, rfl, _, rfl, if_neg_of rfl ?_⟩
      refine ⟨_, rfl, a, _, rfl, .inl haF, rfl, _, rfl, if_neg_of rfl ?_⟩
      refine ⟨_, rfl, a, _, rfl, .inl haF, rfl, _, rfl, if_neg_of rfl ?_⟩
      refine ⟨_, rfl, a, _, rfl, .inl haF, rfl, _, rfl, if_neg_of rfl ?_⟩
      refine ⟨_, rfl, a, _, rfl, .inl haF, rfl, _, rfl, if_pos_of rfl ?_⟩
      exact ⟨rfl, _, rfl, _, rfl, _, rfl, _, rfl, _, rfl, _, rfl, _, rfl, _, rfl, [x1, x2, x3, x4, x5, x6, x7, x8], rfl, n9, hxF, po, kF⟩
    · refine ⟨rfl, _, _, rfl, _, _, rfl, _, _, rfl, _, _, rfl, _, _, rfl, _, _, rfl, _, _, rfl, _, _, rfl, _, _, rfl, rfl, ?_⟩
      refine ⟨_, rfl, a, _, rfl, .inl haF, _, _, rfl, rfl, _, rfl, if_neg_of rfl ?_⟩
      refine ⟨_, rfl, a, _, rfl, .inl haF, rfl, _, rfl, if_neg_of rfl ?_⟩
      refine ⟨_, rfl, a, _, rfl, .inl haF, rfl, _, rfl, if_neg_of rfl ?_⟩
      refine ⟨_, rfl, a, _, rfl, .inl haF, rfl, _, rfl, if_neg_of rfl ?_⟩
      refine ⟨_, rfl, a, _, rfl, .inl haF, rfl, _, rfl, if_neg_of rfl ?_⟩
      refine ⟨_, rfl, a, _, rfl, .inl haF, rfl, _, rfl, if_neg_of rfl ?_⟩
      refine ⟨_, rfl, a, _, rfl, .inl haF, rfl, _, rfl, if_neg_of rfl ?_⟩
      refine ⟨_, rfl, a, _, rfl, .inl haF, rfl, _, rfl, if_neg_of rfl ?_⟩
      exact ⟨rfl, _, rfl, _, rfl, _, rfl, _, rfl, _, rfl, _, rfl, _, rfl, _, rfl, _, rfl, [x1, x2, x3, x4, x5, x6, x7, x8, x9], rfl, n9, hxF, po, kF⟩
    · simp at n9
end
end K0

/-! ## G1k -/
set_option maxRecDepth 100000
set_option maxHeartbeats 2000000
namespace K0
open PySem PySem.Spec PyProof.Rows L2
/-! ### try with several clauses, each with a name or without -/
abbrev Cl : Type := Value × Option Nat × (Addr → Value → Option Addr → TS)
def unS (D : Ends) (i : Nat) : Ends := { nx := fun σ' H' => D.nx (σ'.set i none) H', rt := D.rt, bk := fun σ' H' => D.bk (σ'.set i none) H', ct := fun σ' H' => D.ct (σ'.set i none) H' }
def wCl (K : PySem.W.Frag) (Wo : WX) (D : Ends) : List Cl → WX
  | [] => Wo
  | (c, none, ts) :: r => fun cls d σ H => ∃ b, PySem.W.exmOne K cls c = some b ∧ (b = true → ∀ a, H a = none → ts a cls d D σ H) ∧ (b = false → wCl K Wo D r cls d σ H)
  | (c, some i, ts) :: r => fun cls d σ H => ∃ b, PySem.W.exmOne K cls c = some b ∧ (b = true → ∀ a, H a = none → ts a cls d (unS D i) (σ.set i (some (.ref a))) H) ∧ (b = false → wCl K Wo D r cls d σ H)
inductive ClOk (X : Cx) : List ExceptHandler → List Cl → Prop
  | nil : ClOk X [] []
  | plain {x : Str} {c : Value} {ts : Addr → Value → Option Addr → TS} {b₀ : Stmt} {suite : List Stmt} {np pos' : Pos} {hs : List ExceptHandler} {l : List Cl} (hc : Names X x c)
      (hu : ∀ (a : Addr) (oe : Obj) (cls : Value) (d : Option Addr) (pn : List (Addr × Obj)), Zc cls d oe → (∃ vs, oe.data = .fields vs) → PSs (X.suite a ((a, oe) :: pn)) (b₀ :: suite) (ts a cls d)) (r : ClOk X hs l) :
      ClOk X (.ExceptHandler (some (.Name x np)) none (b₀ :: suite) pos' :: hs) ((c, none, ts) :: l)
  | named {x n : Str} {i : Nat} {c : Value} {ts : Addr → Value → Option Addr → TS} {b₀ : Stmt} {suite : List Stmt} {np pos' : Pos} {hs : List ExceptHandler} {l : List Cl} (hc : Names X x c) (hN : X.N.Nodup) (hi : X.N[i]? = some n) (hln : X.env.kindOf n = some .local)
      (hu : ∀ (a : Addr) (oe : Obj) (cls : Value) (d : Option Addr) (pn : List (Addr × Obj)), Zc cls d oe → (∃ vs, oe.data = .fields vs) → PSs (X.suite a ((a, oe) :: pn)) (b₀ :: suite) (ts a cls d)) (r : ClOk X hs l) :
      ClOk X (.ExceptHandler (some (.Name x np)) (some n) (b₀ :: suite) pos' :: hs) ((c, some i, ts) :: l)
section
variable {X : Cx} {body : List Stmt} {h₀ : ExceptHandler} {hs : List ExceptHandler} {l : List Cl} {pos : Pos} {tb : WX → TS} {Wo : WX}
theorem ps_tryC (hst : X.stack = X.env :: X.outer) (hf : X.env.frame = some X.env.locals) (tk : Takes X Wo)
    (hb : ∀ (W : WX) (pn : List (Addr × Obj)) (xe : Value → Shared → Prop), Takes (X.tr pn xe) W → PassesOwn (model X.prog X.w) X.A X.env xe → PSs (X.tr pn xe) body (tb W))
    (hh : ClOk X (h₀ :: hs) l) : PS X (.Try body (h₀ :: hs) [] [] pos) (fun D σ H => tb (wCl X.K Wo D l) D σ H) := by
  refine ⟨fun pins s σ H D I h => ?_⟩
  have ok := I.ok
  have fr1 : X.A.frames = some (X.env :: X.outer) := by rw [ok.frames, hst]
  refine wpAny_Try_except (wpAny_mono ((hb (wCl X.K Wo D l) (X.pn ++ pins) (fun e y1 => wpAny (model X.prog X.w) X.A (noteFrame e X.env) (fun _ y2 => wpAny (model X.prog X.w) X.A (setFlight e none) (fun _ y3 =>
    wpAny (model X.prog X.w) X.A (handleBy e X.env (h₀ :: hs)) (SP X pins D) X.xe y3) X.xe y2) X.xe y1) (fun u s' xx => ?_) PassesOwn.looking).run [] s σ H D (I.toTry _) h) (fun f s1 hsp => ?_) (fun e s1 he => he))
  · obtain ⟨a, B, sI, pins', σ', H', cls, d, rfl, J', nb, up, sky, na, os, ag, w⟩ := xx
    have J : Inv X pins σ' H' sI := J'.ofTry ok
    have sk : Sky B (X.env :: X.outer) a (Zc cls d) X.env.locals s'.heap := by rw [← hst]; exact sky
    show wpAny (model X.prog X.w) X.A (noteFrame (.ref a) X.env) _ _ _
    refine Sky.land Zc.steady fr1 hf sk fun h3 fl3 up3 => ?_
    have J3 : Inv X pins σ' H' { s' with heap := h3 } := J.landed nb fl3.1 (up.trans up3) os ag
    obtain ⟨oe3, vs3, he3, hz3, hd3⟩ := fl3.there
    have nofrm : ∀ {h : Heap} {o : Obj} {vs : Array Value}, h.FunFrames B (X.env :: X.outer) → h.get? a = some o → o.data = .fields vs → a ∉ frs (X.env :: X.outer) := fun {h o vs} ff e dd hm => by
      obtain ⟨_, o', e', hnf⟩ := ff.mem hm
      rw [e] at e'
      cases e'
      exact hnf _ dd
    have nf0 := nofrm fl3.2.2.1 he3 hd3
    have nL : a ≠ X.env.locals := fun z => nf0 (List.mem_filterMap.mpr ⟨X.env, List.mem_cons_self, by rw [hf, z]⟩)
    have nF : a ∉ X.fs := fun hm => by
      obtain ⟨e, he, q⟩ := List.mem_filterMap.mp hm
      exact nf0 (List.mem_filterMap.mpr ⟨e, List.mem_cons_of_mem _ he, q⟩)
    have S3 := J3.suite he3 hd3 na nL nF
    have LT : PySem.W.Looks (model X.prog X.w) h3 (typeOf (.ref a)) cls := fun A Q E s k q => wpAny_typeOf_ref (k _ _ he3) (by rw [hz3.1]; exact q)
    have tst : ∀ {x : Str} {c : Value} {np : Pos} {Q : Value → Shared → Prop} {E : Value → Shared → Prop}, Names X x c → Q c { s' with heap := h3 } → wpAny (model X.prog X.w) (X.A.mark (some (.ref a))) (eval (.Name x np) X.env) Q E { s' with heap := h3 } := fun {x c np Q E} hc q => by
      obtain ⟨hg, hdbg, hm | ⟨hm, hv, hnn⟩⟩ := hc
      · exact ld_glob (X := X.suite a ((a, oe3) :: (X.pn ++ pins))) S3 hg hm q hdbg
      · exact ld_blt (X := X.suite a ((a, oe3) :: (X.pn ++ pins))) S3 hg hm hv q hnn hdbg
    have go : ∀ {hs2 : List ExceptHandler} {l2 : List Cl}, ClOk X hs2 l2 → wCl X.K Wo D l2 cls d σ' H' → wpAny (model X.prog X.w) X.A (handleBy (.ref a) X.env hs2) (SP X pins D) X.xe { s' with heap := h3 } := by
      intro hs2 l2 hk
      induction hk with
      | nil =>
        intro w
        refine wpAny_handleBy_nil ?_
        obtain ⟨k1, k2, k3, oe, vs, T, oT, ts', he, hz, hd, h1, hr⟩ := id fl3
        unfold PySem.passOn
        refine wpAny_bind (wpAny_field he hd h1 ?_)
        rw [if_neg (show ¬ ((Value.ref T == Value.none) = true) from by simp)]
        have fin : wpAny (model X.prog X.w) X.A (setFlight (.ref a) X.env.frame) (fun _ y4 => wpAny (model X.prog X.w) X.A (throw (.ref a) : Sem Flow) (SP X pins D) X.xe y4) X.xe { s' with heap := h3 } := by
          rw [hf]
          refine HandSPX.setFlight_upZ fl3 fun h4 hh4 up4 => wpAny_throw (tk _ _ ?_)
          exact ⟨a, B, sI, pins, σ', H', cls, d, rfl, J, nb, (up.trans up3).trans up4, .inr (.inr (by rw [hst]; exact hh4)), na, os, ag, w⟩
        first
          | exact wpAny_bind (wpAny_pure (wpAny_bind fin))
          | exact wpAny_bind fin
      | @plain x c ts b₀ suite np pos' hs3 l3 hc hu r ih =>
        intro w
        obtain ⟨b, e1, yes, no⟩ := w
        refine wpAny_handleBy_cons (codeAny_handlers_test ?_) (by intro q; cases q)
        have LM := PySem.W.exm_one (M := model X.prog X.w) (J3.kIn) LT e1
        refine tst hc (LM.here ?_)
        cases b with
        | true =>
          refine codeAny_handlers_suite (HandSPX.lands_againZ fl3 fun h4 fl4 up4 => ?_)
          have J4 : Inv X pins σ' H' { s' with heap := h4 } := J.landed nb fl4.1 ((up.trans up3).trans up4) os ag
          obtain ⟨oe4, vs4, he4, hz4, hd4⟩ := fl4.there
          have S4 := J4.suite he4 hd4 na nL nF
          refine wpAny_mono ((hu a oe4 cls d (X.pn ++ pins) hz4 ⟨_, hd4⟩).run [] _ _ H' _ S4 (yes rfl a na)) (fun f s6 hsp => ?_) (fun _ _ z => False.elim z)
          rcases f with _ | _ | _ | u
          · obtain ⟨σ6, H6, S6, q6⟩ := hsp
            exact ⟨_, _, S6.unsuite ok, q6⟩
          · obtain ⟨σ6, H6, S6, q6⟩ := hsp
            exact ⟨_, _, S6.unsuite ok, q6⟩
          · obtain ⟨σ6, H6, S6, q6⟩ := hsp
            exact ⟨_, _, S6.unsuite ok, q6⟩
          · obtain ⟨v6, σ6, H6, S6, r6, q6⟩ := hsp
            exact ⟨_, _, _, S6.unsuite ok, r6, q6⟩
        | false =>
          show wpAny _ X.A (handleBy (.ref a) X.env hs3) _ _ _
          exact ih (no rfl)
      | @named x n i c ts b₀ suite np pos' hs3 l3 hc hN hi hln hu r ih =>
        intro w
        obtain ⟨b, e1, yes, no⟩ := w
        have hloc : Loc X.env.scope n := .inl hln
        refine wpAny_handleBy_cons (codeAny_handlers_test ?_) (by intro q; cases q)
        have LM := PySem.W.exm_one (M := model X.prog X.w) (J3.kIn) LT e1
        refine tst hc (LM.here ?_)
        cases b with
        | true =>
          refine codeAny_handlers_suite_as (HandSPX.lands_againZ fl3 fun h4 fl4 up4 => ?_)
          have J4 : Inv X pins σ' H' { s' with heap := h4 } := J.landed nb fl4.1 ((up.trans up3).trans up4) os ag
          obtain ⟨oe4, vs4, he4, hz4, hd4⟩ := fl4.there
          have S4 := J4.suite he4 hd4 na nL nF
          refine store_ok (X := X.suite a ((a, oe4) :: (X.pn ++ pins))) (v := .ref a) S4 hN hi hloc rfl (fun s5 S5 => ?_) (.inr hln)
          refine wpAny_mono ((hu a oe4 cls d (X.pn ++ pins) hz4 ⟨_, hd4⟩).run [] s5 _ H' _ S5 (yes rfl a na)) (fun f s6 hsp => ?_) (fun _ _ z => False.elim z)
          have off : ∀ {σ6 : L2.St} {H6 : Hp} {Q : Shared → Prop}, Inv (X.suite a ((a, oe4) :: (X.pn ++ pins))) [] σ6 H6 s6 → (∀ s7, Inv X pins (σ6.set i none) H6 s7 → Q s7) →
              wpAny (model X.prog X.w) X.A (do bindName X.env n .none; unbindBehindTheSuite X.env n pos') (fun _ s7 => Q s7) X.xe s6 := fun {σ6 H6 Q} S6 hq => gone_ok (S6.unsuite ok) hN hi hln hq
          rcases f with _ | _ | _ | u
          · obtain ⟨σ6, H6, S6, q6⟩ := hsp
            exact off S6 fun s7 J7 => ⟨_, _, J7, q6⟩
          · obtain ⟨σ6, H6, S6, q6⟩ := hsp
            exact off S6 fun s7 J7 => ⟨_, _, J7, q6⟩
          · obtain ⟨σ6, H6, S6, q6⟩ := hsp
            exact off S6 fun s7 J7 => ⟨_, _, J7, q6⟩
          · obtain ⟨v6, σ6, H6, S6, r6, q6⟩ := hsp
            exact off S6 fun s7 J7 => ⟨_, _, _, J7, r6, q6⟩
        | false =>
          show wpAny _ X.A (handleBy (.ref a) X.env hs3) _ _ _
          exact ih (no rfl)
    exact go hh w
  · rcases f with _ | _ | _ | u
    · obtain ⟨σ', H', J', q⟩ := hsp
      exact wpAny_execs_nil ⟨σ', H', J'.ofTry ok, q⟩
    · obtain ⟨σ', H', J', q⟩ := hsp
      exact ⟨σ', H', J'.ofTry ok, q⟩
    · obtain ⟨σ', H', J', q⟩ := hsp
      exact ⟨σ', H', J'.ofTry ok, q⟩
    · obtain ⟨v, σ', H', J', r, q⟩ := hsp
      exact ⟨v, σ', H', J'.ofTry ok, r, q⟩
end
end K0

/-! ## X12 -/
set_option maxRecDepth 100000
set_option maxHeartbeats 8000000
namespace K0
open PySem L2 NS RZ ClX PySem.KeepX
/-! ### what is promised of the class, as far as it is read -/
def eN : XK := fun _ _ _ => False
structure Getter (P : Program) (w : World) (K : PySem.W.Frag) (mg : Str → Option Value) (base : Heap) (C : Addr) (n : Nat) (f : Str) (sp : Sp) : Prop where
  ex : ∃ p g fd, PropOf K C f p g ∧ FnOk P w K mg base CX0 n g fd ["self"] sp ∧ Binds K fd ["self"] []
section
variable {X : Cx} {C : Addr} {e : Expr} {ta : TE} {pos : Pos} {n : Nat} {f : Str} {sp : Sp}
theorem pe_gtr (Z : Getter X.prog X.w X.K X.mg X.base C n f sp) (c : L2.Cls X.K C) (hr : Room (n + 1) X.A) (he : PE X e ta) (hab : attributeBase e f X.env (eval e X.env) = eval e X.env := by rfl) : PE X (.Attribute e f pos) (tProp C sp [] eN ta) := by
  obtain ⟨p, g, fd, hp, F, b⟩ := Z.ex
  exact pe_prop he c hp F hr b .nil pass0 hab
end
/-! ### what is told -/
abbrev sTold : Stmt := top 49
def spTold (K : PySem.W.Frag) : Sp := fun vs H Q _ => ∃ (a : Addr) (xs : List V), vs = [.ref a] ∧ SqL K H a xs ∧ xs.length ≤ 9 ∧ (∀ x ∈ xs, Da H x ∧ ShT x) ∧ PoolOk (xs.map tl) ∧ ∀ H' v r, Same H H' → ResR (xs.map tl) r → ResV H' v r → Q v H'
structure TTo (K : PySem.W.Frag) (mg : Str → Option Value) (CP CQ : Addr) : Prop where
  list : mg "list" = none
  gP : mg "ParseError" = some (.ref CP)
  gQ : mg "InvalidQuestion" = some (.ref CQ)
  pp : PySem.W.exmOne K (.ref CP) (.ref CP) = some true
  qp : PySem.W.exmOne K (.ref CQ) (.ref CP) = some false
  qq : PySem.W.exmOne K (.ref CQ) (.ref CQ) = some true
  xf : XfC K CP
  noN : PySem.W.findIn K (.ref CP) "number" = some none
section
variable {P : Program} {w : World} {K : PySem.W.Frag} {mg : Str → Option Value} {base : Heap} {C CP CQ fL : Addr} {fdL : FuncData}
theorem scTold : FnScope ["_law_values", "_law_found", "_law_e"] ["_law_values"] (defScope sTold) := ⟨rfl, rfl, rfl, by decide +kernel, rfl, by decide +kernel, by decide +kernel⟩
theorem ok_told {f : Addr} {fd : FuncData} (F : Fun K "_law_told" "_law_told" sTold f fd) (T : TTo K mg CP CQ) (TQ0 : TQu K C) (Zc0 : Getter P w K mg base C 1 "clauses" (getSp C "_clauses")) (Za : Getter P w K mg base C 1 "asked" (getSp C "_asked"))
    (eL : Gl K mg "_law_lined_question" fL) (GL : FnOk P w K mg base (L2.CX P w) 9 fL fdL ["_law_lines"] (spLined K C CP CQ)) (bL : Binds K fdL ["_law_lines"] []) :
    FnOk P w K mg base CX0 10 f fd ["_law_values"] (spTold K) := by
  refine F.ok scTold (fun vs H Q E h => ?_) (fun cdv A outer s H vs Q E hr h => ?_)
  · obtain ⟨a, xs, rfl, _⟩ := h
    rfl
  · obtain ⟨a, xs, rfl, ha, n9, hx, po, k⟩ := h
    have hr2 : Room 2 _ := hr.mono (by decide)
    refine ⟨_, pss_cons (ps_tryC rfl rfl LamX.takes0 (fun W pn xe tk _ => pss_one (ps_set (i := 1) scTold.nd rfl (Or.inl rfl) (pe_callS GL hr (by rfl) eL.g eL.k bL (passAt tk) (pa_cons (pv 0) pa_nil))))
        (ClOk.named (i := 2) ⟨rfl, by decide, .inl T.gP⟩ scTold.nd rfl rfl (fun a oe cls d pn hz hf => pss_one (ps_ret (pe_xf T.xf T.noN hz hf (pv 2))))
        (ClOk.plain ⟨rfl, by decide, .inl T.gQ⟩ (fun a oe cls d pn hz hf => pss_one (ps_ret pe_str)) .nil)))
      (pss_one (ps_ret (pe_disp (pps_cons pe_str (pe_callTy call_list_of (by rfl) T.list (by decide +kernel) (pa_cons (pe_gtr Zc0 TQ0.cl hr2 (pv 1)) pa_nil))
        (pps_cons pe_str (pe_callTy call_list_of (by rfl) T.list (by decide +kernel) (pa_cons (pe_gtr Za TQ0.cl hr2 (pv 1)) pa_nil)) pps_nil)) rfl rfl (by decide) (by decide)))), ?_⟩
    refine ⟨_, rfl, a, xs, rfl, ha, n9, hx, po, fun r hr => ?_⟩
    cases r with
    | ix n => exact fun H' d s' _ e => ⟨true, T.pp, fun _ a' ha' => ⟨_, rfl, rfl, rfl, d, _, .int (n : Nat), rfl, e, rfl, k H' _ (.ix n) s' hr rfl⟩, fun z => (by cases z)⟩
    | qu => exact fun H' s' => ⟨false, T.qp, fun z => (by cases z), fun _ => ⟨true, T.qq, fun _ a' ha' => k H' _ .qu s' hr rfl, fun z => (by cases z)⟩⟩
    | pl q =>
      rintro H1 p s1 hp ⟨tc, ta, to, td, ts, ns, U⟩ wf
      intro d hd
      have s2 := K0.Same.new (.dK []) hd
      have U2 := U.same s2
      obtain ⟨dx, ep⟩ := U2.ob
      refine ⟨_, rfl, p, dx, _, rfl, ep, p, dx, _, _, rfl, ep, qFs_clauses _ _ _ _, tc, _, rfl, .inr U2.tcs, fun l hl => ?_⟩
      have s3 := K0.Same.new (.lst (ts.map V.ref)) hl
      have U3 := U2.same s3
      have ep3 := s3 _ _ ep
      refine ⟨_, rfl, p, dx, _, rfl, ep3, p, dx, _, _, rfl, ep3, qFs_asked _ _ _ _, ta, _, rfl, .inr (SqT.of U3.tas), fun la hla => ?_⟩
      have s4 := K0.Same.new (.lst (q.asked.map V.str)) hla
      have ed : upd (upd H1 d (.dK [])) l (.lst (ts.map V.ref)) d = some (.dK []) := s3 _ _ upd_same
      have nld : l ≠ d := fun z => by rw [z, upd_same] at hl; cases hl
      have nlad : la ≠ d := fun z => by rw [z, ed] at hla; cases hla
      have nlal : la ≠ l := fun z => by rw [z, upd_same] at hla; cases hla
      refine ⟨s4 _ _ ed, [(Sum.inr "clauses", .ref l), (Sum.inr "asked", .ref la)], rfl, by show 2 ≤ 15; decide, ?_⟩
      have em : mergeK [] [((Sum.inr "clauses" : Key), V.ref l), (Sum.inr "asked", .ref la)] = [((Sum.inr "clauses" : Key), V.ref l), (Sum.inr "asked", .ref la)] := rfl
      rw [em]
      refine k _ _ (.pl q) (fun b o e => ?_) hr ⟨d, rfl, l, la, ts, upd_same, by rw [upd_ne nld, upd_ne (Ne.symm nlal)]; exact upd_same, ((U3.cls).same s4).off fun ys z => ?_, by rw [upd_ne nlad]; exact upd_same⟩
      · have e1 := s1 _ _ e
        rw [upd_ne (ne_of_none e1 hd)]
        exact s4 _ _ (s3 _ _ (s2 _ _ e1))
      · rw [s4 _ _ ed] at z
        cases z
end
end K0

/-! ## X13 -/
set_option maxRecDepth 100000
set_option maxHeartbeats 4000000
namespace K0
open PySem L2 NS RZ
def spc : Str := " "
def lineC (c : CL) : Str := Txt.join spc ("clause" :: c.1 :: c.2)
def linesQ (q : PQ) : List Str := q.cls.map lineC ++ [Txt.join spc ("asked" :: q.asked)]
def textC (c : CL) : Str := ((c.1 ++ ("(" : Str)) ++ Txt.join spc c.2) ++ (")" : Str)
def textQ (q : PQ) : Str := Txt.join spc (q.asked ++ ((":" : Str) :: q.cls.map textC))
def rJoin (K : PySem.W.Frag) : V → List V → Hp → VK → Prop := fun x xs H Q => ∃ a p, ∃ ys : List Str, x = .str a ∧ xs = [.ref p] ∧ (SqL K H p (ys.map V.str) ∨ SqT K H p (ys.map V.str)) ∧
      (ys.map (·.length)).sum + ys.length * a.length ≤ 16777216 ∧ Q (.str (Txt.join a ys)) H
theorem pe_joinK {X : Cx} {K : PySem.W.Frag} {o e : Expr} {to te : TE} {apos pos : Pos} (hK : X.K = K) (ho : PE X o to) (he : PE X e te) (hs : starEach [e] X.env = [(false, eval e X.env)] := by rfl) (hbase : attributeBase o "join" X.env (eval o X.env) = eval o X.env := by rfl) (hline : (apos.endLine == pos.line) = true := by rfl) :
    PE X (.Call (.Attribute o "join" apos) [e] [] pos) (tM1 (rJoin K) to te) := by
  subst hK
  exact pe_join ho he hs hbase hline
theorem sum_le (l : List Str) (n : Nat) (h : ∀ k ∈ l, k.length ≤ n) : (l.map (·.length)).sum ≤ l.length * n := by
  induction l with
  | nil => simp
  | cons a l ih =>
    have r := ih fun k hk => h k (List.mem_cons_of_mem _ hk)
    have z := h a List.mem_cons_self
    rw [List.map_cons, List.sum_cons, List.length_cons, Nat.add_mul, Nat.one_mul]
    omega
theorem join_small {l : List Str} (n : Nat) (h : ∀ k ∈ l, k.length ≤ n) (few : l.length * (n + 1) ≤ 16777216) : (l.map (·.length)).sum + l.length * spc.length ≤ 16777216 := by
  have z := sum_le l n h
  have e : spc.length = 1 := by decide +kernel
  rw [e]
  rw [Nat.mul_add] at few
  omega
theorem join_le (l : List Str) (n : Nat) (h : ∀ k ∈ l, k.length ≤ n) : (Txt.join spc l).length ≤ l.length * (n + 1) := by
  rw [TL.join_eq]
  have z := PySem.StrLaws.join_length_le spc l
  have y := sum_le l n h
  have e : spc.length = 1 := by decide +kernel
  rw [e] at z
  rw [Nat.mul_add]
  omega
theorem WfC.line {cs : List CL} (g : WfC cs) : ∀ c ∈ cs, (("clause" : Str) :: c.1 :: c.2).length ≤ 10 ∧ ∀ k ∈ (("clause" : Str) :: c.1 :: c.2), k.length ≤ 8 := fun c hc => by
  refine ⟨by have := (g.wide c hc).2; simp only [List.length_cons]; omega, fun k hk => ?_⟩
  rcases List.mem_cons.mp hk with e | hk
  · rw [e]
    decide +kernel
  rcases List.mem_cons.mp hk with e | hk
  · rw [e]
    exact nameS_len (g.tab c hc)
  · exact nameS_len (g.nam c hc k hk)
theorem WfC.cols_join {cs : List CL} (g : WfC cs) : ∀ c ∈ cs, (Txt.join spc c.2).length ≤ 72 := fun c hc => by
  have z := join_le c.2 8 fun k hk => nameS_len (g.nam c hc k hk)
  have := (g.wide c hc).2
  have q : c.2.length * 9 ≤ 8 * 9 := Nat.mul_le_mul_right 9 this
  omega
theorem WfC.text {cs : List CL} (g : WfC cs) : ∀ c ∈ cs, (textC c).length ≤ 100 := fun c hc => by
  have z := g.cols_join c hc
  have y := nameS_len (g.tab c hc)
  unfold textC
  rw [Str.length_append, Str.length_append, Str.length_append]
  have e1 : ("(" : Str).length = 1 := by decide +kernel
  have e2 : (")" : Str).length = 1 := by decide +kernel
  rw [e1, e2]
  omega
theorem empty_app (x : Str) : Str.empty ++ x = x := by
  show (⟨#[] ++ x.cps⟩ : Str) = x
  rw [Array.empty_append]
/-! ### lines, str -/
def spLines (K : PySem.W.Frag) (C : Addr) : Sp := fun vs H Q _ => ∃ (p : Addr) (q : PQ), vs = [.ref p] ∧ QuO K C H p q ∧ WfQ q ∧ ∀ t H', Same H H' → H t = none → H' t = some (.tup ((linesQ q).map V.str)) → Q (.ref t) H'
def spStr (K : PySem.W.Frag) (C : Addr) : Sp := fun vs H Q _ => ∃ (p : Addr) (q : PQ), vs = [.ref p] ∧ QuO K C H p q ∧ WfQ q ∧ ∀ H', Same H H' → Q (.str (textQ q)) H'
def clAt (cs : List CL) (i : Nat) : CL := cs.getD i ("", [])
theorem range_cl {β : Type} (cs : List CL) (f : CL → β) : (List.range cs.length).map (fun i => f (clAt cs i)) = cs.map f := by
  apply List.ext_getElem
  · simp
  · intro i h1 h2
    simp at h1
    simp [clAt, List.getD, h1]
section
variable {P : Program} {w : World} {K : PySem.W.Frag} {mg : Str → Option Value} {base : Heap} {C : Addr}
abbrev nLines : List Str := ["self", "told", "table", "columns"]
theorem scG4 : FnScope nLines ["self"] (defScope (sQ 4)) := ⟨rfl, rfl, rfl, by decide +kernel, rfl, by decide +kernel, by decide +kernel⟩
theorem ok_gLines {f : Addr} {fd : FuncData} (F : Fun K "lines" "Question.lines" (sQ 4) f fd) (T : TQu K C) : FnOk P w K mg base CX0 1 f fd ["self"] (spLines K C) := by
  refine F.ok scG4 (fun vs H Q E h => ?_) (fun cdv A outer s H vs Q E hr h => ?_)
  · obtain ⟨p, q, rfl, _⟩ := h
    rfl
  · obtain ⟨p, q, rfl, ⟨tc, ta, to, td, ts, ns, U⟩, g, k⟩ := h
    obtain ⟨dx, ep⟩ := U.ob
    refine ⟨_, pss_cons (ps_setLc (i := 1) (own := [("table", 2), ("columns", 3)]) (g := gTup K 2 (gCons (gName 2) (gCons (gName 3) gNil))) (tt := tYes) (te := tM1 (rJoin K) (tC (.str spc)) (tLst (tCons (tC (.str "clause")) (tCons (tVar 2) (StX.tStar K (tVar 3) tNil))))) rfl scG4.nd rfl rfl (sw_true rfl rfl rfl (by decide +kernel)) (pi_tup (pe_fld (pv 0) rfl))
        (blkOk_by (own := [("table", 2), ("columns", 3)]) (N := nLines) (sc := defScope (sQ 4)) (by decide +kernel))
        (fun _ _ _ _ _ => pg_tup rfl (pgs_cons (pg_name (i := 2) scG4.nd rfl (Or.inl rfl)) (pgs_cons (pg_name (i := 3) scG4.nd rfl (Or.inl rfl)) pgs_nil))) (fun _ _ _ _ _ => pts_nil)
        (fun _ _ _ _ _ => pe_joinK rfl pe_str (pe_lst (pa_cons pe_str (pa_cons (pv 2) (StX.pa_star (pv 3) pa_nil))))))
      (pss_one (ps_ret (pe_tup (StX.pa_star (pv 1) (pa_cons (pe_join pe_str (pe_lst (pa_cons pe_str (StX.pa_star (pe_fld (pv 0) rfl) pa_nil)))) pa_nil))))), ?_⟩
    have n1 : ts.length = q.cls.length := U.cls.len
    have c8 := g.c.few
    have a8 := g.few
    refine ⟨.ref p, rfl, p, C, dx, _, _, rfl, ep, T.cl, T.n1, qFs_clauses _ _ _ _, tc, rfl, ⟨_, U.tcs⟩, fun D hD => lc_pure (f := fun i => .str (lineC (clAt q.cls i))) (walk_tup (K := K) (a := tc) (xs := ts.map V.ref)) (by rw [List.length_map, sizeLine_eq]; omega) hD (fun H1 s1 => seqT s1 U.tcs) ?_ gPair_mono ?_⟩
    · rintro i x H1 H2 hi s1 ⟨rfl, hx⟩
      rw [List.getElem?_map] at hx
      obtain ⟨t, ht, rfl⟩ := Option.map_eq_some_iff.mp hx
      obtain ⟨hti, et⟩ := List.getElem?_eq_some_iff.mp ht
      obtain ⟨c, hci, hA⟩ := U.cls.at_ i hti
      rw [et] at hA
      obtain ⟨t2, g1, g2⟩ := hA.same s1
      have cm := List.mem_of_getElem? hci
      have ec : clAt q.cls i = c := by simp [clAt, List.getD, hci]
      obtain ⟨l1, l2⟩ := g.c.line c cm
      refine ⟨t, _, rfl, SqT.of g1, rfl, _, _, rfl, _, _, rfl, rfl, rfl, fun Q' hq => ⟨⟨_, rfl⟩, _, rfl, _, rfl, t2, _, rfl, .inl (SqT.of g2), ?_, fun l hl => ?_⟩⟩
      · simp only [List.length_cons, List.length_append, List.length_map, List.length_nil]
        rw [sizeLine_eq]
        simp only [List.length_cons] at l1
        omega
      · refine ⟨_, l, ("clause" : Str) :: c.1 :: c.2, rfl, rfl, .inl ?_, join_small 8 l2 (by omega), ?_⟩
        · have e : upd H2 l (.lst (V.str "clause" :: V.str c.1 :: (c.2.map V.str ++ []))) l = some (.lst ((("clause" : Str) :: c.1 :: c.2).map V.str)) := by rw [upd_same, List.append_nil]; rfl
          exact SqL.of e
        · have z := hq _ (K0.Same.new (.lst (V.str "clause" :: V.str c.1 :: (c.2.map V.str ++ []))) hl)
          rw [ec] at z
          exact z
    · intro H1 s1 hD1
      rw [List.length_map, n1] at hD1
      have eD : (List.range q.cls.length).map (fun i => V.str (lineC (clAt q.cls i))) = (q.cls.map lineC).map V.str := by
        rw [List.map_map]
        exact range_cl q.cls fun c => V.str (lineC c)
      rw [eD] at hD1
      refine ⟨_, rfl, D, _, rfl, .inr (SqL.of hD1), ⟨_, rfl⟩, .ref p, rfl, p, C, dx, _, _, rfl, s1 _ _ ep, T.cl, T.n2, qFs_asked _ _ _ _, ta, _, rfl, .inl (SqT.of (s1 _ _ U.tas)), ?_, fun l hl => ?_⟩
      · simp only [List.length_cons, List.length_append, List.length_map, List.length_nil]
        rw [sizeLine_eq]
        omega
      have s2 := K0.Same.new (.lst (V.str "asked" :: (q.asked.map V.str ++ []))) hl
      have l2 : ∀ k ∈ (("asked" : Str) :: q.asked), k.length ≤ 8 := fun k hk => by
        rcases List.mem_cons.mp hk with e | hk
        · rw [e]
          decide +kernel
        · exact nameS_len (g.nam k hk)
      refine ⟨_, l, ("asked" : Str) :: q.asked, rfl, rfl, .inl ?_, join_small 8 l2 (by simp only [List.length_cons]; omega), ?_, fun t ht => ?_⟩
      · have e : upd H1 l (.lst (V.str "asked" :: (q.asked.map V.str ++ []))) l = some (.lst ((("asked" : Str) :: q.asked).map V.str)) := by rw [upd_same, List.append_nil]; rfl
        exact SqL.of e
      · simp only [List.length_cons, List.length_append, List.length_map, List.length_nil]
        rw [sizeLine_eq]
        omega
      · have st := K0.Same.new (.tup ((q.cls.map lineC).map V.str ++ [V.str (Txt.join spc (("asked" : Str) :: q.asked))])) ht
        refine k t _ (K0.Same.tr s1 (K0.Same.tr s2 st)) (none_back s1 (none_back s2 ht)) ?_
        rw [upd_same]
        unfold linesQ
        rw [List.map_append]
        rfl
end
def rListOf (K : PySem.W.Frag) : List V → Hp → VK → Prop := fun xs H Q => ∃ p ys, xs = [.ref p] ∧ (SqL K H p ys ∨ SqT K H p ys) ∧ ∀ l, H l = none → Q (.ref l) (upd H l (.lst ys))
abbrev sLLin : Stmt := top 45
def spLLin : Sp := fun vs H Q _ => ∃ (d : Addr) (q : PQ), vs = [.ref d] ∧ PlA H d q ∧ WfQ q ∧ ∀ a H', Same H H' → H a = none → H' a = some (.lst ((linesQ q).map V.str)) → Q (.ref a) H'
section
variable {P : Program} {w : World} {K : PySem.W.Frag} {mg : Str → Option Value} {base : Heap}
abbrev nLLin : List Str := ["_law_plain", "_law_found", "_law_table", "_law_columns_here"]
theorem scLLin : FnScope nLLin ["_law_plain"] (defScope sLLin) := ⟨rfl, rfl, rfl, by decide +kernel, rfl, by decide +kernel, by decide +kernel⟩
theorem ok_lLin {f : Addr} {fd : FuncData} (F : Fun K "_law_question_lines" "_law_question_lines" sLLin f fd) (T : TLs K mg) : FnOk P w K mg base CX0 1 f fd ["_law_plain"] spLLin := by
  refine F.ok scLLin (fun vs H Q E h => ?_) (fun cdv A outer s H vs Q E hr h => ?_)
  · obtain ⟨d, q, rfl, _⟩ := h
    rfl
  · obtain ⟨d, q, rfl, ⟨lc, la, ts, h1, h2, h3, h4⟩, g, k⟩ := h
    refine ⟨_, pss_cons (ps_setLc (i := 1) (own := [("_law_table", 2), ("_law_columns_here", 3)]) (g := gTup K 2 (gCons (gName 2) (gCons (gName 3) gNil))) (tt := tYes)
          (te := tM1 (rJoin K) (tC (.str spc)) (tOp rCat (tLst (tCons (tC (.str "clause")) (tCons (tVar 2) tNil))) (tCB (rListOf K) (tCons (tVar 3) tNil)))) rfl scLLin.nd rfl rfl (sw_true rfl rfl rfl (by decide +kernel)) (pi_list (pe_dget (lt1 hr.units) (pv 0) pe_str (fun _ _ => rfl)))
          (blkOk_by (own := [("_law_table", 2), ("_law_columns_here", 3)]) (N := nLLin) (sc := defScope sLLin) (by decide +kernel))
          (fun _ _ _ _ _ => pg_tup rfl (pgs_cons (pg_name (i := 2) scLLin.nd rfl (Or.inl rfl)) (pgs_cons (pg_name (i := 3) scLLin.nd rfl (Or.inl rfl)) pgs_nil))) (fun _ _ _ _ _ => pts_nil)
          (fun _ _ _ _ _ => pe_joinK rfl pe_str (pe_op op_cat (pe_lst (pa_cons pe_str (pa_cons (pv 2) pa_nil))) (pe_callTy (T := "list") (r := rListOf K) call_list_of (by rfl) T.list (by decide +kernel) (pa_cons (pv 3) pa_nil)))))
      (pss_one (ps_ret (pe_op op_cat (pv 1) (pe_lst (pa_cons (pe_join pe_str (pe_op op_cat (pe_lst (pa_cons pe_str pa_nil)) (pe_dget (lt1 hr.units) (pv 0) pe_str (fun _ _ => rfl)))) pa_nil))))), ?_⟩
    have n1 : ts.length = q.cls.length := h3.len
    have c8 := g.c.few
    have a8 := g.few
    refine ⟨_, rfl, d, V.ref lc, rfl, DGet.k (k := Sum.inr "clauses") h1, lc, rfl, ⟨_, SqL.of h2⟩, fun D hD => lc_pure (f := fun i => .str (lineC (clAt q.cls i))) (walk_list (K := K) (a := lc) (xs := ts.map V.ref)) (by rw [List.length_map, sizeLine_eq]; omega) hD (fun H2 s2 => SqL.of (s2 _ _ h2)) ?_ gPair_mono ?_⟩
    · rintro i x H1 H2 hi s1 ⟨rfl, hx⟩
      rw [List.getElem?_map] at hx
      obtain ⟨t, ht, rfl⟩ := Option.map_eq_some_iff.mp hx
      obtain ⟨hti, et⟩ := List.getElem?_eq_some_iff.mp ht
      obtain ⟨c, hci, hA⟩ := h3.at_ i hti
      rw [et] at hA
      obtain ⟨t2, g1, g2⟩ := hA.same s1
      have cm := List.mem_of_getElem? hci
      have ec : clAt q.cls i = c := by simp [clAt, List.getD, hci]
      obtain ⟨l1, l2⟩ := g.c.line c cm
      refine ⟨t, _, rfl, SqT.of g1, rfl, _, _, rfl, _, _, rfl, rfl, rfl, fun Q' hq => ⟨⟨_, rfl⟩, _, rfl, by show 2 ≤ sizeLine; decide, fun b hb => ?_⟩⟩
      have sb := K0.Same.new (.lst [V.str "clause", V.str c.1]) hb
      refine ⟨_, rfl, t2, _, rfl, .inr (SqT.of (sb _ _ g2)), fun e he => ?_⟩
      have se := K0.Same.new (.lst (c.2.map V.str)) he
      refine ⟨b, e, _, _, rfl, rfl, se _ _ upd_same, upd_same, ?_, fun l hl => ?_⟩
      · simp only [List.length_cons, List.length_nil, List.length_map]
        rw [sizeLine_eq]
        simp only [List.length_cons] at l1
        omega
      have sl := K0.Same.new (.lst ([V.str "clause", V.str c.1] ++ c.2.map V.str)) hl
      refine ⟨_, l, ("clause" : Str) :: c.1 :: c.2, rfl, rfl, .inl ?_, join_small 8 l2 (by omega), ?_⟩
      · refine SqL.of ?_
        rw [upd_same]
        rfl
      · have z := hq _ (K0.Same.tr sb (K0.Same.tr se sl))
        rw [ec] at z
        exact z
    · intro H1 s1 hD1
      rw [List.length_map, n1] at hD1
      have eD : (List.range q.cls.length).map (fun i => V.str (lineC (clAt q.cls i))) = (q.cls.map lineC).map V.str := by
        rw [List.map_map]
        exact range_cl q.cls fun c => V.str (lineC c)
      rw [eD] at hD1
      refine ⟨_, rfl, ⟨_, rfl⟩, by show 1 ≤ sizeLine; decide, fun b hb => ?_⟩
      have sb := K0.Same.new (.lst [V.str "asked"]) hb
      have s1b := K0.Same.tr s1 sb
      refine ⟨_, rfl, d, V.ref la, rfl, DGet.k (k := Sum.inr "asked") (s1b _ _ h1), b, la, _, _, rfl, rfl, upd_same, s1b _ _ h4, ?_, fun e he => ?_⟩
      · simp only [List.length_cons, List.length_nil, List.length_map]
        rw [sizeLine_eq]
        omega
      have se := K0.Same.new (.lst ([V.str "asked"] ++ q.asked.map V.str)) he
      have l2 : ∀ k ∈ (("asked" : Str) :: q.asked), k.length ≤ 8 := fun k hk => by
        rcases List.mem_cons.mp hk with e | hk
        · rw [e]
          decide +kernel
        · exact nameS_len (g.nam k hk)
      refine ⟨_, e, ("asked" : Str) :: q.asked, rfl, rfl, .inl ?_, join_small 8 l2 (by simp only [List.length_cons]; omega), by show 1 ≤ sizeLine; decide, fun m hm => ?_⟩
      · refine SqL.of ?_
        rw [upd_same]
        rfl
      have sm := K0.Same.new (.lst [V.str (Txt.join spc (("asked" : Str) :: q.asked))]) hm
      refine ⟨D, m, _, _, rfl, rfl, sm _ _ (se _ _ (sb _ _ hD1)), upd_same, ?_, fun r hr => ?_⟩
      · simp only [List.length_cons, List.length_nil, List.length_map]
        rw [sizeLine_eq]
        omega
      have sr := K0.Same.new (.lst ((q.cls.map lineC).map V.str ++ [V.str (Txt.join spc (("asked" : Str) :: q.asked))])) hr
      refine k r _ (K0.Same.tr s1b (K0.Same.tr se (K0.Same.tr sm sr))) (none_back s1b (none_back se (none_back sm hr))) ?_
      rw [upd_same]
      unfold linesQ
      rw [List.map_append]
      rfl
end
end K0

/-! ## X14 -/
set_option maxRecDepth 100000
set_option maxHeartbeats 4000000
namespace K0
open PySem PySem.Spec PyProof.Rows L2
/-! ### plain questions as data -/
theorem show_strs : ∀ l : List Str, PyData.showableAll (l.map PyData.str) = true
  | [] => rfl
  | a :: l => by rw [List.map_cons, PyData.showableAll, show_strs l]; rfl
theorem leaf_str {x : Str} (h : PyData.strOk x = true) : PyData.leavesShort 13 (.str x) = true := PyData.leavesShort_of_canLay0 13 _ h rfl
theorem leaf_strs : ∀ {l : List Str}, (∀ k ∈ l, PyData.strOk k = true) → PyData.leavesShortAll 13 (l.map PyData.str) = true
  | [], _ => rfl
  | a :: l, h => by
    rw [List.map_cons, PyData.leavesShortAll, leaf_strs fun k hk => h k (List.mem_cons_of_mem _ hk), leaf_str (h a List.mem_cons_self)]
    rfl
theorem wt_strs : ∀ {l : List Str}, (∀ k ∈ l, k.length ≤ 8) → PyData.weightAll (l.map PyData.str) ≤ l.length * 9
  | [], _ => Nat.zero_le _
  | a :: l, h => by
    have ih := wt_strs fun k hk => h k (List.mem_cons_of_mem _ hk)
    have z : PyData.weight (.str a) ≤ 8 := h a List.mem_cons_self
    rw [List.map_cons, PyData.weightAll, List.length_cons, Nat.add_mul, Nat.one_mul]
    omega
theorem cls_data {cs : List CL} (h1 : ∀ c ∈ cs, nameS c.1 = true) (h2 : ∀ c ∈ cs, ∀ k ∈ c.2, nameS k = true) (h3 : ∀ c ∈ cs, c.2.length ≤ 8) :
    PyData.showableAll (cs.map dC) = true ∧ PyData.leavesShortAll 13 (cs.map dC) = true ∧ PyData.weightAll (cs.map dC) ≤ cs.length * 100 := by
  induction cs with
  | nil => exact ⟨rfl, rfl, Nat.zero_le _⟩
  | cons c cs ih =>
    obtain ⟨i1, i2, i3⟩ := ih (fun x hx => h1 x (List.mem_cons_of_mem _ hx)) (fun x hx => h2 x (List.mem_cons_of_mem _ hx)) (fun x hx => h3 x (List.mem_cons_of_mem _ hx))
    have n1 := h1 c List.mem_cons_self
    have n2 := h2 c List.mem_cons_self
    have w1 : PyData.weight (.str c.1) ≤ 8 := nameS_len n1
    have w2 := wt_strs fun k hk => nameS_len (n2 k hk)
    have w3 := h3 c List.mem_cons_self
    refine ⟨?_, ?_, ?_⟩
    · rw [List.map_cons, PyData.showableAll, i1, Bool.and_true]
      unfold dC
      simp only [PyData.showable, PyData.showableAll, show_strs, Bool.and_self]
    · rw [List.map_cons, PyData.leavesShortAll, i2, Bool.and_true]
      unfold dC
      simp only [PyData.leavesShort, PyData.leavesShortAll]
      have e1 := leaf_str (nameS_ok n1)
      simp only [PyData.leavesShort] at e1
      rw [e1, leaf_strs fun k hk => nameS_ok (n2 k hk)]
      rfl
    · rw [List.map_cons, PyData.weightAll, List.length_cons, Nat.add_mul, Nat.one_mul]
      have e : PyData.weight (dC c) = PyData.weight (.str c.1) + 1 + (PyData.weightAll (c.2.map PyData.str) + 1 + 0) := by
        unfold dC
        simp only [PyData.weight, PyData.weightAll]
      omega

def kvP (q : PQ) : List (PyData × PyData) := [(.str "clauses", .list (q.cls.map dC)), (.str "asked", .list (q.asked.map PyData.str))]
def dP (q : PQ) : PyData := .dict (kvP q)
def shownR : Res → Str
  | .ix n => (PyData.int (n : Nat)).shown
  | .qu => (PyData.str "question").shown
  | .pl q => (dP q).shown
theorem dP_ok {q : PQ} (g : WfQ q) : (dP q).showable = true ∧ (dP q).shown.length ≤ sizeLine := by
  obtain ⟨c1, c2, c3⟩ := cls_data g.c.tab g.c.nam fun c hc => (g.c.wide c hc).2
  have w3 := wt_strs (l := q.asked) fun k hk => nameS_len (g.nam k hk)
  have a8 := g.few
  have c8 := g.c.few
  refine ⟨?_, PyData.shown_fits (B := 13) (by decide) (by decide) ?_ ?_⟩
  · unfold dP kvP
    simp only [PyData.showable, PyData.showableKv, c1, show_strs, Bool.and_self]
  · unfold dP kvP
    have e1 := leaf_str (x := "clauses") (by decide +kernel)
    have e2 := leaf_str (x := "asked") (by decide +kernel)
    have e3 := leaf_strs fun k hk => nameS_ok (g.nam k hk)
    simp only [PyData.leavesShort] at e1 e2
    simp only [PyData.leavesShort, PyData.leavesShortKv, e1, e2, e3, c2, Bool.and_self]
  · unfold dP kvP
    have e1 : PyData.weight (.str "clauses") = 7 := by decide +kernel
    have e2 : PyData.weight (.str "asked") = 5 := by decide +kernel
    simp only [PyData.weight, PyData.weightKv] at e1 e2 ⊢
    omega
section
variable {X : Cx} {pins : List (Addr × Obj)} {σ : L2.St} {H : Hp} {s : Shared}
/-- what the records of a plain question's dict read -/
theorem pl_reads (I : Inv X pins σ H s) {d : Addr} {q : PQ} (h : PlA H d q) : ∃ (o : Obj) (es : Array DictEntry) (ep : Nat) (as : List Addr), (d == sysModules) = false ∧ s.heap.get? d = some o ∧ o.ExactDict ∧ o.data = .dict es ep ∧
    ReadsAll s.heap (es.toList.map (·.key)) ((kvP q).map (·.1)) [] ∧ ReadsAll s.heap (es.toList.map (·.val)) ((kvP q).map (·.2)) as := by
  obtain ⟨lc, la, ts, h1, h2, h3, h4⟩ := h
  obtain ⟨_, lo, vs, kv, o, es, ep, ho, ex, hdd, hes, pr, hnd⟩ := I.hok d _ h1
  have r1 : Dp X.K H (.ref lc) (.list (q.cls.map dC)) := .lst (SqL.of h2) h3.dp
  have r2 : Dp X.K H (.ref la) (.list (q.asked.map PyData.str)) := .lst (SqL.of h4) (dpAll_strs _)
  obtain ⟨as1, q1⟩ := Dp.reads I _ _ _ r1 (show RelV (.ref lc) (Value.ref lc) from rfl)
  obtain ⟨as2, q2⟩ := Dp.reads I _ _ _ r2 (show RelV (.ref la) (Value.ref la) from rfl)
  cases kv with
  | cons k1 kr =>
    rename_i b1 l1
    cases kr with
    | cons k2 kr =>
      rename_i b2 l2
      cases kr
      cases hesl : es.toList with
      | nil => rw [hesl] at pr; cases pr
      | cons e1 er =>
        rw [hesl] at pr
        cases er with
        | nil => cases pr with | cons _ _ p => cases p
        | cons e2 er =>
          cases pr with
          | cons p1 p2 p3 =>
            cases p3 with
            | cons p4 p5 p6 =>
              cases p6
              obtain ⟨a1, a2⟩ := k1
              obtain ⟨a3, a4⟩ := k2
              obtain ⟨kk1, vv1⟩ := b1
              obtain ⟨kk2, vv2⟩ := b2
              dsimp only at a1 a2 a3 a4 p1 p2 p4 p5
              subst a1
              subst a3
              obtain rfl : vv1 = Value.ref lc := a2
              obtain rfl : vv2 = Value.ref la := a4
              have key : ∀ {e : DictEntry} {x : Str}, keyIs (Sum.inr x) e.key = true → ∃ t, e.key = .str x t := fun {e x} z => by
                rcases keyIs_shape z with ⟨i, t, g1, _⟩ | ⟨y, t, g1, g2⟩
                · cases g1
                · injection g1 with g1
                  exact ⟨t, by rw [g1]; exact g2⟩
              obtain ⟨t1, z1⟩ := key p1
              obtain ⟨t2, z2⟩ := key p4
              refine ⟨o, es, ep, as1 ++ (as2 ++ []), lo, ho, ex, hdd, ?_, ?_⟩
              · rw [hesl, List.map_cons, List.map_cons, z1, z2]
                exact .cons (.str _ _) (.cons (.str _ _) .nil)
              · rw [hesl, List.map_cons, List.map_cons, p2, p5]
                exact .cons q1 (.cons q2 .nil)
theorem noDicts_dCs : ∀ cs : List CL, PyData.hasDictAll (cs.map dC) = false
  | [] => rfl
  | c :: cs => by
    have st : ∀ l : List Str, PyData.hasDictAll (l.map PyData.str) = false := fun l => by
      induction l with
      | nil => rfl
      | cons a l ih => rw [List.map_cons, PyData.hasDictAll, ih]; rfl
    rw [List.map_cons, PyData.hasDictAll, noDicts_dCs cs]
    unfold dC
    simp only [PyData.hasDict, PyData.hasDictAll, st, Bool.or_false]
theorem noDicts_strs : ∀ l : List Str, PyData.hasDictAll (l.map PyData.str) = false
  | [] => rfl
  | a :: l => by rw [List.map_cons, PyData.hasDictAll, noDicts_strs l]; rfl
/-- repr(x), x what is told or due -/
def rReprL : List V → Hp → VK → Prop := fun vs H Q => ∃ (x : V) (r : Res), vs = [x] ∧ ResV H x r ∧ (∀ n, r = .ix n → n ≤ 9) ∧ (∀ q, r = .pl q → WfQ q) ∧ Q (.str (shownR r)) H
theorem cr_reprL (hgd : X.A.guards = some []) (hu : X.A.units + 64 < cLine) : CallR X (.builtin "repr") rReprL := by
  intro pins s σ H vs us Q I rr h
  obtain ⟨x, r, rfl, hx, hn, hq, q⟩ := h
  cases r with
  | ix n =>
    obtain rfl : x = .int (n : Nat) := hx
    have n9 := hn n rfl
    refine cr_repr hgd hu pins s σ H _ us Q I rr ⟨_, .int (n : Nat), rfl, .of (.int _), (by decide : ∀ n, n ≤ 9 → (PyData.int (n : Nat)).showable = true) n n9, by show 0 ≤ 20; decide, (by decide +kernel : ∀ n, n ≤ 9 → (PyData.int (n : Nat)).shown.length ≤ 1000) n n9, q⟩
  | qu =>
    obtain rfl : x = .str "question" := hx
    exact cr_repr hgd hu pins s σ H _ us Q I rr ⟨_, .str "question", rfl, .of (.str _), rfl, by show 0 ≤ 20; decide, by decide +kernel, q⟩
  | pl pq =>
    obtain ⟨d, rfl, pl⟩ := hx
    rw [Vals.ref1 rr]
    have g := hq pq rfl
    obtain ⟨sh, hz⟩ := dP_ok g
    obtain ⟨o, es, ep, as, hsys, h1, ex, h3, h4, h5⟩ := pl_reads I pl
    have h2 : o.cls = .type "dict" := ex.1
    have hz' : (dictText (PyData.shownKv (kvP pq))).length ≤ sizeLine := by
      have z : (dP pq).shown.length ≤ sizeLine := hz
      unfold dP at z
      simpa only [PyData.shown] using z
    obtain ⟨hs1, hs2⟩ := PyData.showableKv_split (kvP pq) (by simpa [PyData.showable, dP] using sh)
    obtain ⟨b1, hb1, k1⟩ := ReprAllK.of_readsAll (prog := X.prog) (w := X.w) h4 hs1 (fun z => by cases z) (fun t ht => let ⟨p, hp, hl⟩ := PyData.shownKv_key_le (kvP pq) t ht; Nat.le_trans hl (Nat.le_trans (dictText_mem_le hp) hz'))
    obtain ⟨b2, hb2, k2⟩ := ReprAllK.of_readsAll (prog := X.prog) (w := X.w) h5 hs2 (fun z => by
        simp only [kvP, List.map_cons, List.map_nil, PyData.hasDictAll, PyData.hasDict, noDicts_dCs, noDicts_strs, Bool.or_false] at z
        cases z) (fun t ht => let ⟨p, hp, hl⟩ := PyData.shownKv_val_le (kvP pq) t ht; Nat.le_trans hl (Nat.le_trans (dictText_mem_le hp) hz'))
    have hb : ReadAtMost s.heap (PyData.depthKv (kvP pq)) (b1 ++ b2) := (hb1.mono (PyData.depthAll_keys_le (kvP pq))).append (hb2.mono (PyData.depthAll_vals_le (kvP pq)))
    have rd : Reads s.heap (.ref d) (dP pq) (d :: [] ++ as) := Reads.dict h1 h2 h3 h4 h5
    have hna : d ∉ b1 ++ b2 := not_mem_of_deeper rd (by unfold dP; simp only [PyData.depth]; omega) hb
    have dep : PyData.depthKv (kvP pq) ≤ 3 := by
      have z1 := depth_dCs pq.cls
      have z2 := depth_strs pq.asked
      simp only [kvP, PyData.depthKv, PyData.depth, z2]
      omega
    refine call_repr_slot (by omega) ⟨o, h1, h2⟩ PySem.F.slot_dict_repr ?_
    refine call_dict_reprK (prog := X.prog) (w := X.w) (h₀ := s.heap) h1 h2 h3 hsys hna (ReprEntriesK.of_two es.toList _ _
      (k1.more_le (fun b hb => List.mem_append_left _ hb) (PyData.depthAll_keys_le (kvP pq))) (k2.more_le (fun b hb => List.mem_append_right _ hb) (PyData.depthAll_vals_le (kvP pq)))) hgd (fun b _ => Clear.nil b) (by show X.A.units + 1 + (_ + 1) < cLine; omega) (fun _ _ e => e) (fun h' u tk hk' => ?_) (by rw [← PyData.shownKv_eq]; exact hz')
    rw [← PyData.shownKv_eq]
    refine ⟨_, u, rfl, .str (shownR (.pl pq)), H, I.kept (t' := tk) hk', ⟨u, ?_⟩, q⟩
    show Value.str _ u = Value.str (dP pq).shown u
    unfold dP
    simp only [PyData.shown]
end
end K0

/-! ## X15 -/
set_option maxRecDepth 100000
set_option maxHeartbeats 4000000
namespace K0
open PySem PySem.Spec PyProof.Rows L2
/-! ### plain questions compared -/
def rNeP : R2 := fun x y H Q => ∃ (a b : Addr) (q : PQ), x = .ref a ∧ y = .ref b ∧ PlA H a q ∧ PlA H b q ∧ WfQ q ∧ Q (.bl false) H
theorem op_neP {X : Cx} (hu : X.A.units + 66 < cLine) : OpR X (compareOp .NotEq) rNeP := by
  intro pins s σ H x y v u Q I rx ry h
  obtain ⟨a, b, q, rfl, rfl, pa, pb, g, k⟩ := h
  obtain rfl : v = Value.ref a := rx
  obtain rfl : u = Value.ref b := ry
  obtain ⟨lc, la, ts, h1, h2, h3, h4⟩ := pa
  obtain ⟨lc', la', ts', h1', h2', h3', h4'⟩ := pb
  obtain ⟨_, ya, va, ra, da⟩ := (show ObjOk X.prog X.w H s.heap a (.dK _) from I.hok a _ h1)
  obtain ⟨_, yb, vb, rb, db⟩ := (show ObjOk X.prog X.w H s.heap b (.dK _) from I.hok b _ h1')
  have d1 : Dp X.K H (.ref lc) (.list (q.cls.map dC)) := .lst (SqL.of h2) h3.dp
  have d2 : Dp X.K H (.ref la) (.list (q.asked.map PyData.str)) := .lst (SqL.of h4) (dpAll_strs _)
  have d1' : Dp X.K H (.ref lc') (.list (q.cls.map dC)) := .lst (SqL.of h2') h3'.dp
  have d2' : Dp X.K H (.ref la') (.list (q.asked.map PyData.str)) := .lst (SqL.of h4') (dpAll_strs _)
  obtain ⟨_, q1⟩ := Dp.reads I _ _ _ d1 (show RelV (.ref lc) (Value.ref lc) from rfl)
  obtain ⟨_, q2⟩ := Dp.reads I _ _ _ d2 (show RelV (.ref la) (Value.ref la) from rfl)
  obtain ⟨_, q1'⟩ := Dp.reads I _ _ _ d1' (show RelV (.ref lc') (Value.ref lc') from rfl)
  obtain ⟨_, q2'⟩ := Dp.reads I _ _ _ d2' (show RelV (.ref la') (Value.ref la') from rfl)
  have sC : SeqAt.shaped (.list (q.cls.map dC)) = true := dCs_shapedL g.c.lay
  have sA : SeqAt.shaped (.list (q.asked.map PyData.str)) = true := dStrs_shapedL fun k hk => nameS_ok (g.nam k hk)
  have eC : PyData.eqv (.list (q.cls.map dC)) (.list (q.cls.map dC)) = true := (eqv_dCs q.cls q.cls).trans (decide_eq_true rfl)
  have eA : PyData.eqv (.list (q.asked.map PyData.str)) (.list (q.asked.map PyData.str)) = true := (eqvAll_strs q.asked q.asked).trans (decide_eq_true rfl)
  have vals : ∀ {l l2 : Addr} {vs : List (Key × Value)}, KV [((Sum.inr "clauses" : Key), V.ref l), (Sum.inr "asked", V.ref l2)] vs → vs = [((Sum.inr "clauses" : Key), Value.ref l), (Sum.inr "asked", Value.ref l2)] := fun {l l2 vs} r => by
    cases r with
    | cons k1 kr =>
      rename_i b1 l1
      cases kr with
      | cons k2 kr =>
        rename_i b2 l3
        cases kr
        obtain ⟨a1, a2⟩ := k1
        obtain ⟨a3, a4⟩ := k2
        obtain ⟨kk1, vv1⟩ := b1
        obtain ⟨kk2, vv2⟩ := b2
        dsimp only at a1 a2 a3 a4
        subst a1
        subst a3
        obtain rfl : vv1 = Value.ref l := a2
        obtain rfl : vv2 = Value.ref l2 := a4
        rfl
  obtain rfl := vals ra
  obtain rfl := vals rb
  have hits : PySem.W.KeqHits X.A.in1 s [((Sum.inr "clauses" : Key), Value.ref lc'), (Sum.inr "asked", Value.ref la')] [((Sum.inr "clauses" : Key), Value.ref lc), (Sum.inr "asked", Value.ref la)] true := by
    have z2 := PySem.W.KeqHits.hit (A := X.A.in1) (s := s) (kb := [((Sum.inr ("clauses" : Str) : Key), Value.ref lc'), ((Sum.inr ("asked" : Str) : Key), Value.ref la')]) (k := (Sum.inr ("asked" : Str) : Key)) (y := Value.ref la') (r := []) rfl (PySem.W.keq_at (A := X.A) q2 q2' sA sA (by show X.A.units + 1 + 64 < cLine; omega)) .nil
    have z := PySem.W.KeqHits.hit (A := X.A.in1) (s := s) (kb := [((Sum.inr ("clauses" : Str) : Key), Value.ref lc'), ((Sum.inr ("asked" : Str) : Key), Value.ref la')]) (k := (Sum.inr ("clauses" : Str) : Key)) (y := Value.ref lc') rfl (PySem.W.keq_at (A := X.A) q1 q1' sC sC (by show X.A.units + 1 + 64 < cLine; omega)) z2
    rw [eC, eA] at z
    exact z
  exact PySem.W.keq_ne (knd := mixKind X.prog X.w) (r := true) ya yb da db (by omega) (fun _ => hits) ⟨.bl _, H, I, rfl, k⟩
end K0

/-! ## X16 -/
set_option maxRecDepth 100000
set_option maxHeartbeats 4000000
namespace K0
open PySem PySem.Spec PyProof.Rows L2
/-! ### drawn questions are questions -/
theorem names16_ok : ∀ k ∈ names16, nameS k = true := by decide +kernel
theorem tabs8_ok : ∀ k ∈ tabs8, nameS k = true ∧ k ≠ "other" := by decide +kernel
theorem GoodP.wf {q : PQ} (g : GoodP q) : WfQ q where
  c := {
    some_ := g.cls.some_
    few := Nat.le_trans g.cls.few (by decide)
    tab := fun c hc => (tabs8_ok c.1 (g.cls.tab c hc)).1
    nam := fun c hc k hk => by
      obtain ⟨pool, _, p2, p3⟩ := g.cls.cols
      exact names16_ok k (p2 k (p3 c hc k hk))
    wide := fun c hc => g.cls.wide c hc
    up := g.up
    same := g.cls.same
    cols := by
      obtain ⟨pool, p1, _, p3⟩ := g.cls.cols
      exact ⟨pool, p1, p3⟩ }
  nd := g.nd
  ask := g.ask

/-! ### the lines of a question read back -/
theorem ok_app {x y : Str} (h1 : PyData.strOk x = true) (h2 : PyData.strOk y = true) : PyData.strOk (x ++ y) = true := by
  unfold PyData.strOk at *
  show (x.cps ++ y.cps).all _ = true
  rw [Array.all_append, h1, h2]
  rfl
theorem ok_join {l : List Str} (h : ∀ k ∈ l, PyData.strOk k = true) : PyData.strOk (Txt.join spc l) = true := by
  rw [TL.join_eq]
  induction l with
  | nil => decide +kernel
  | cons x l ih =>
    cases l with
    | nil => exact h x List.mem_cons_self
    | cons y l => exact ok_app (ok_app (h x List.mem_cons_self) (by decide +kernel)) (ih fun k hk => h k (List.mem_cons_of_mem _ hk))
theorem WfQ.lines_ok {q : PQ} (g : WfQ q) : ∀ k ∈ linesQ q, PyData.strOk k = true := fun k hk => by
  unfold linesQ at hk
  rcases List.mem_append.mp hk with z | z
  · obtain ⟨c, hc, rfl⟩ := List.mem_map.mp z
    refine ok_join fun x hx => ?_
    rcases List.mem_cons.mp hx with e | hx
    · rw [e]; decide +kernel
    rcases List.mem_cons.mp hx with e | hx
    · rw [e]; exact nameS_ok (g.c.tab c hc)
    · exact nameS_ok (g.c.nam c hc x hx)
  · rw [List.mem_singleton.mp z]
    refine ok_join fun x hx => ?_
    rcases List.mem_cons.mp hx with e | hx
    · rw [e]; decide +kernel
    · exact nameS_ok (g.nam x hx)

theorem okS_of {z : Str} (h : PyData.strOk z = true) : okS z := by
  unfold PyData.strOk at h
  rw [Array.all_eq_true'] at h
  intro c hc
  exact of_decide_eq_true (h c (by simpa using hc))
theorem name_noblank {z : Str} (h : nameS z = true) : (32 : Nat) ∉ TL.tl z := fun m => by
  unfold nameS at h
  rw [Bool.and_eq_true] at h
  have q := List.all_eq_true.mp h.2 32 m
  unfold lowC at q
  rw [Bool.and_eq_true] at q
  have := of_decide_eq_true q.1
  omega
theorem wds_join {l : List Str} (ne : l ≠ []) (h : ∀ k ∈ l, nameS k = true) : wds (some (Txt.join spc l)) = l :=
  TL.split_join (y := spc) (s := 32) (S := []) (by decide +kernel) (by decide +kernel) ne fun p hp => name_noblank (h p hp)
theorem line_told {c : CL} (h1 : nameS c.1 = true) (h2 : ∀ k ∈ c.2, nameS k = true) (h3 : 1 ≤ c.2.length ∧ c.2.length ≤ 8) : tl (.str (lineC c)) = some (.cl c) := by
  show toldW (wds (some (Txt.join spc ("clause" :: c.1 :: c.2)))) = _
  rw [wds_join (by simp) fun k hk => by
    rcases List.mem_cons.mp hk with e | hk
    · rw [e]; exact nm_clause
    rcases List.mem_cons.mp hk with e | hk
    · rw [e]; exact h1
    · exact h2 k hk]
  unfold toldW
  dsimp only
  rw [if_pos rfl]
  have e : (nameS c.1 && (c.2.all nameS && widB c.2.length)) = true := by
    rw [h1, List.all_eq_true.mpr h2]
    unfold widB
    rw [decide_eq_true h3.1, decide_eq_true h3.2]
    rfl
  rw [e]
  rfl
theorem asked_told {l : List Str} (h1 : ∀ k ∈ l, nameS k = true) (h2 : l.Nodup) : tl (.str (Txt.join spc ("asked" :: l))) = some (.as l) := by
  show toldW (wds (some (Txt.join spc ("asked" :: l)))) = _
  rw [wds_join (by simp) fun k hk => by
    rcases List.mem_cons.mp hk with e | hk
    · rw [e]; exact nm_asked
    · exact h1 k hk]
  unfold toldW
  dsimp only
  rw [if_neg (fun e => ne_ca e.symm)]
  have e : (l.all nameS && decide l.Nodup) = true := by
    rw [List.all_eq_true.mpr h1, decide_eq_true h2]
    rfl
  rw [if_pos ⟨rfl, e⟩]
def cl1 : Option LT → Option CL
  | some (.cl c) => some c
  | _ => none
def as1 : Option LT → Option (List Str)
  | some (.as l) => some l
  | _ => none
theorem runF_ok : ∀ (L : List (Option LT)) (n : Nat) (s : FS), (∀ t ∈ L, t ≠ none) → (s.1 ++ L.filterMap cl1).Nodup → (L.filterMap as1).length + (if s.2.isSome = true then 1 else 0) ≤ 1 →
    ∃ s', runF n s L = .inr s' ∧ s'.1 = s.1 ++ L.filterMap cl1 ∧ s'.2 = (match s.2 with | some l => some l | none => (L.filterMap as1).head?)
  | [], n, s, _, _, _ => ⟨s, rfl, by simp, by cases s.2 <;> rfl⟩
  | none :: L, n, s, h, _, _ => absurd rfl (h none List.mem_cons_self)
  | some (.cl c) :: L, n, s, h, nd, one => by
    have e : (some (LT.cl c) :: L).filterMap cl1 = c :: L.filterMap cl1 := rfl
    have e2 : (some (LT.cl c) :: L).filterMap as1 = L.filterMap as1 := rfl
    rw [e] at nd
    rw [e2] at one
    have nin : c ∉ s.1 := fun m => by
      have z := (List.nodup_append.mp nd).2.2 c m c List.mem_cons_self
      exact z rfl
    have es : stepF s (some (.cl c)) = some (s.1 ++ [c], s.2) := by show (if c ∈ s.1 then none else _) = _; rw [if_neg nin]
    obtain ⟨s', r1, r2, r3⟩ := runF_ok L (n + 1) (s.1 ++ [c], s.2) (fun t ht => h t (List.mem_cons_of_mem _ ht)) (by rw [List.append_assoc]; exact nd) one
    exact ⟨s', by rw [runF_some es, r1], by rw [r2, e, List.append_assoc]; rfl, by rw [r3, e2]⟩
  | some (.as l) :: L, n, s, h, nd, one => by
    have e : (some (LT.as l) :: L).filterMap cl1 = L.filterMap cl1 := rfl
    have e2 : (some (LT.as l) :: L).filterMap as1 = l :: L.filterMap as1 := rfl
    rw [e] at nd
    rw [e2, List.length_cons] at one
    have no : s.2 = none := by
      cases z : s.2 with
      | none => rfl
      | some x => rw [z] at one; simp at one
    have es : stepF s (some (.as l)) = some (s.1, some l) := by show (if s.2.isSome = true then none else _) = _; rw [no]; rfl
    obtain ⟨s', r1, r2, r3⟩ := runF_ok L (n + 1) (s.1, some l) (fun t ht => h t (List.mem_cons_of_mem _ ht)) nd (by
      have z : (L.filterMap as1).length = 0 := by omega
      rw [z]
      exact Nat.le_refl 1)
    refine ⟨s', by rw [runF_some es, r1], by rw [r2, e], ?_⟩
    rw [r3, no, e2]
    rfl
theorem res_of {q : PQ} (g : WfQ q) {L : List (Option LT)} (h : ∀ t ∈ L, t ≠ none) (pc : (L.filterMap cl1).Perm q.cls) (pa : L.filterMap as1 = [q.asked] ∨ (L.filterMap as1 = [] ∧ q.asked = [])) : ResR L (.pl q) := by
  have nd : ([] ++ L.filterMap cl1).Nodup := by
    rw [List.nil_append]
    exact pc.nodup_iff.mpr (pair_nodup g.c.up)
  have one : (L.filterMap as1).length + (if (none : Option (List Str)).isSome = true then 1 else 0) ≤ 1 := by
    rcases pa with e | ⟨e, _⟩ <;> rw [e] <;> simp
  obtain ⟨s', r1, r2, r3⟩ := runF_ok L 0 ([], none) h nd one
  have ea : s'.2.getD [] = q.asked := by
    rw [r3]
    dsimp only
    rcases pa with e | ⟨e, e2⟩
    · rw [e]; rfl
    · rw [e, e2]; rfl
  have z := ResR.pl (cs := q.cls) r1 g.c.up (fun c => by rw [r2, List.nil_append]; exact pc.mem_iff.symm) (by rw [ea]; exact g)
  rw [ea] at z
  exact z
theorem lines_tl {q : PQ} (g : WfQ q) : ((linesQ q).map V.str).map tl = q.cls.map (fun c => some (LT.cl c)) ++ [some (LT.as q.asked)] := by
  unfold linesQ
  rw [List.map_append, List.map_append, List.map_map, List.map_map]
  congr 1
  · refine List.map_congr_left fun c hc => ?_
    exact line_told (g.c.tab c hc) (g.c.nam c hc) (g.c.wide c hc)
  · show [tl (.str (Txt.join spc ("asked" :: q.asked)))] = _
    rw [asked_told g.nam g.nd]
theorem fm_cl (cs : List CL) : (cs.map fun c => some (LT.cl c)).filterMap cl1 = cs ∧ (cs.map fun c => some (LT.cl c)).filterMap as1 = [] := by
  induction cs with
  | nil => exact ⟨rfl, rfl⟩
  | cons c cs ih =>
    obtain ⟨h1, h2⟩ := ih
    refine ⟨?_, ?_⟩
    · rw [List.map_cons, List.filterMap_cons]
      show c :: _ = _
      rw [h1]
    · rw [List.map_cons, List.filterMap_cons]
      exact h2
/-- the lines in any order -/
theorem res_lines {q : PQ} (g : WfQ q) {L : List (Option LT)} (pm : L.Perm (q.cls.map (fun c => some (LT.cl c)) ++ [some (LT.as q.asked)])) : ResR L (.pl q) := by
  obtain ⟨f1, f2⟩ := fm_cl q.cls
  refine res_of g (fun t ht => ?_) ?_ (.inl ?_)
  · rcases List.mem_append.mp (pm.mem_iff.mp ht) with z | z
    · obtain ⟨c, _, rfl⟩ := List.mem_map.mp z
      exact fun e => by cases e
    · rw [List.mem_singleton.mp z]
      exact fun e => by cases e
  · have z := pm.filterMap cl1
    have e : [some (LT.as q.asked)].filterMap cl1 = [] := rfl
    rw [List.filterMap_append, f1, e, List.append_nil] at z
    exact z
  · have z := pm.filterMap as1
    have e : [some (LT.as q.asked)].filterMap as1 = [q.asked] := rfl
    rw [List.filterMap_append, f2, e, List.nil_append] at z
    have z2 : (L.filterMap as1).Perm [q.asked] := z
    exact List.perm_singleton.mp z2
/-- all but the last one -/
theorem res_cut {q : PQ} (g : WfQ q) : ResR (q.cls.map fun c => some (LT.cl c)) (.pl ⟨q.cls, []⟩) := by
  obtain ⟨f1, f2⟩ := fm_cl q.cls
  refine res_of (q := ⟨q.cls, []⟩) ⟨g.c, List.nodup_nil, fun k hk => by cases hk⟩ (fun t ht => ?_) (by rw [f1]) (.inr ⟨f2, rfl⟩)
  obtain ⟨c, _, rfl⟩ := List.mem_map.mp ht
  exact fun e => by cases e
/-- lines are short -/
theorem line_short {q : PQ} (g : WfQ q) : ∀ z ∈ linesQ q, z.length ≤ 100 ∧ okS z := fun z hz => by
  refine ⟨?_, okS_of (g.lines_ok z hz)⟩
  unfold linesQ at hz
  rcases List.mem_append.mp hz with m | m
  · obtain ⟨c, hc, rfl⟩ := List.mem_map.mp m
    obtain ⟨l1, l2⟩ := g.c.line c hc
    have z := join_le _ 8 l2
    have y : (("clause" : Str) :: c.1 :: c.2).length * 9 ≤ 10 * 9 := Nat.mul_le_mul_right 9 l1
    show (Txt.join spc _).length ≤ 100
    omega
  · rw [List.mem_singleton.mp m]
    have l2 : ∀ k ∈ (("asked" : Str) :: q.asked), k.length ≤ 8 := fun k hk => by
      rcases List.mem_cons.mp hk with e | hk
      · rw [e]; decide +kernel
      · exact nameS_len (g.nam k hk)
    have z := join_le _ 8 l2
    have a8 := g.few
    have y : (("asked" : Str) :: q.asked).length * 9 ≤ 9 * 9 := Nat.mul_le_mul_right 9 (by simp only [List.length_cons]; omega)
    omega
end K0

/-! ## X17 -/
set_option maxRecDepth 100000
set_option maxHeartbeats 8000000
namespace K0
open PySem L2 NS RZ
/-! ### the law's question -/
theorem WfQ.pre {q : PQ} (g : WfQ q) : PreQ q := by
  obtain ⟨pool, p1, p2⟩ := g.c.cols
  refine ⟨⟨⟨Nat.le_trans g.c.few (by decide), fun c hc => (g.c.wide c hc).2, pool, by omega, fun k hk => ?_⟩, g.c.tab, g.c.nam, fun c hc => (g.c.wide c hc).1, g.c.up⟩, g.nd, g.nam, Nat.le_trans g.few (by decide)⟩
  obtain ⟨c, hc, h⟩ := colsIn_mem.mp hk
  exact p2 c hc k h
abbrev sMade : Stmt := top 35
def spMade2 (K : PySem.W.Frag) (C : Addr) : Sp := fun vs H Q _ => ∃ (d : Addr) (q : PQ), vs = [.ref d] ∧ PlA H d q ∧ WfQ q ∧ ∀ p H', Same H H' → QuO K C H' p q → Q (.ref p) H'
theorem passF {X : Cx} : Passes (L2.CX X.prog X.w) X (fun _ _ _ => False) := fun _ _ _ _ _ _ _ ⟨_, _, _, _, _, _, _, _, _, _, _, _, z⟩ => z.elim
section
variable {P : Program} {w : World} {K : PySem.W.Frag} {mg : Str → Option Value} {base : Heap} {C CQ fI : Addr} {fdI : FuncData}
theorem scMade : FnScope ["_law_plain"] ["_law_plain"] (defScope sMade) := ⟨rfl, rfl, rfl, by decide +kernel, rfl, by decide +kernel, by decide +kernel⟩
theorem ok_made2 {f : Addr} {fd : FuncData} (F : Fun K "_law_made" "_law_made" sMade f fd) (tup : mg "tuple" = none) (gQ : mg "Question" = some (.ref C)) (M : Mk K C fI)
    (GI : FnOk P w K mg base (L2.CX P w) 5 fI fdI ["self", "clauses", "asked"] (spInit2 K C CQ)) (bI : Binds K fdI ["self", "clauses", "asked"] []) : FnOk P w K mg base CX0 7 f fd ["_law_plain"] (spMade2 K C) := by
  refine F.ok scMade (fun vs H Q E h => ?_) (fun cdv A outer s H vs Q E hr h => ?_)
  · obtain ⟨d, q, rfl, _⟩ := h
    rfl
  · obtain ⟨d, q, rfl, ⟨lc, la, ts, h1, h2, h3, h4⟩, g, k⟩ := h
    refine ⟨_, pss_one (ps_ret (pe_make (E := fun _ _ _ => False) M GI hr (by rfl) gQ bI .nil passF (pa_cons (pe_callTy (T := "tuple") call_tuple_of (by rfl) tup (by decide +kernel) (pa_cons (pe_dget (lt1 hr.units) (pv 0) pe_str (fun _ _ => rfl)) pa_nil))
      (pa_cons (pe_callTy (T := "tuple") call_tuple_of (by rfl) tup (by decide +kernel) (pa_cons (pe_dget (lt1 hr.units) (pv 0) pe_str (fun _ _ => rfl)) pa_nil)) pa_nil)))), ?_⟩
    refine ⟨_, rfl, d, V.ref lc, rfl, DGet.k (k := Sum.inr "clauses") h1, lc, _, rfl, .inl ⟨SqL.of h2, fun tc htc => ?_⟩⟩
    have s1 := K0.Same.new (.tup (ts.map V.ref)) htc
    refine ⟨_, rfl, d, V.ref la, rfl, DGet.k (k := Sum.inr "asked") (s1 _ _ h1), la, _, rfl, .inl ⟨SqL.of (s1 _ _ h4), fun ta hta => ?_⟩⟩
    have s2 := K0.Same.new (.tup (q.asked.map V.str)) hta
    have s02 := K0.Same.tr s1 s2
    have etc := s2 _ _ (upd_same (H := H) (a := tc) (o := .tup (ts.map V.ref)))
    intro x dx nx ndx nex
    have s3 : Same (upd (upd H tc (.tup (ts.map V.ref))) ta (.tup (q.asked.map V.str))) (upd (upd (upd (upd H tc (.tup (ts.map V.ref))) ta (.tup (q.asked.map V.str))) dx (.own x)) x (.ins C dx [])) := fun c o e => by
      rw [upd_ne (ne_of_none e nx), upd_ne (ne_of_none e ndx)]
      exact e
    have s03 := K0.Same.tr s02 s3
    refine ⟨x, dx, tc, ta, ts, q, rfl, upd_same, SqT.of (s3 _ _ etc), h3.same s03, s3 _ _ upd_same, g.pre, fun _ H' tc' ta' to' td' ns' e U' kd => ⟨rfl, ?_⟩, fun no => absurd g no⟩
    have sx : Same (upd (upd H tc (.tup (ts.map V.ref))) ta (.tup (q.asked.map V.str))) H' := fun c o e => by
      have n1 := ne_of_none e nx
      refine kd c o n1 ?_
      rw [upd_ne n1, upd_ne (ne_of_none e ndx)]
      exact e
    exact k x H' (K0.Same.tr s02 sx) ⟨tc', ta', to', td', ts, ns', U'⟩
end
/-! ### lines with a change -/
/-- a value among lines: plain data, no dice, a text of at most so many signs -/
def LnP (p : Addr) (n : Nat) (H : Hp) (x : V) : Prop := Da H x ∧ x ≠ .ref p ∧ ∀ z, x = .str z → z.length ≤ n ∧ okS z
theorem LnP.kd {p : Addr} {n m : Nat} {H H' : Hp} {x : V} (h : LnP p n H x) (k : Kd p H H') (l : n ≤ m) : LnP p m H' x := by
  obtain ⟨h1, h2, h3⟩ := h
  refine ⟨?_, h2, fun z e => ⟨Nat.le_trans (h3 z e).1 l, (h3 z e).2⟩⟩
  have ne : ∀ {a : Addr}, x = .ref a → a ≠ p := fun e z => h2 (by rw [e, z])
  cases h1 with
  | non => exact .non
  | bl b => exact .bl b
  | int i => exact .int i
  | str x => exact .str x
  | lst h => exact .lst (k _ _ (ne rfl) h)
  | tup h => exact .tup (k _ _ (ne rfl) h)
  | dK h => exact .dK (k _ _ (ne rfl) h)
theorem LnP.str {p : Addr} {n : Nat} {H : Hp} {z : Str} (h : z.length ≤ n) (o : okS z) : LnP p n H (.str z) := ⟨.str z, fun e => (by cases e), fun y e => (by cases e; exact ⟨h, o⟩)⟩
theorem LnP.tupS {p a : Addr} {n : Nat} {H H' : Hp} {xs : List V} (s : Same H H') (e : H a = some (.tup xs)) (ne : a ≠ p) : LnP p n H' (.ref a) := ⟨.tup (s _ _ e), fun z => ne (by injection z), fun z e => (by cases e)⟩
theorem LnP.lstS {p a : Addr} {n : Nat} {H H' : Hp} {xs : List V} (s : Same H H') (e : H a = some (.lst xs)) (ne : a ≠ p) : LnP p n H' (.ref a) := ⟨.lst (s _ _ e), fun z => ne (by injection z), fun z e => (by cases e)⟩
theorem LnP.dKS {p a : Addr} {n : Nat} {H H' : Hp} {xs : List (Key × V)} (s : Same H H') (e : H a = some (.dK xs)) (ne : a ≠ p) : LnP p n H' (.ref a) := ⟨.dK (s _ _ e), fun z => ne (by injection z), fun z e => (by cases e)⟩
structure PoolN (m : Nat) (xs : List V) : Prop where
  ex : ∃ pool : List Str, pool.length ≤ 8 + 8 * m ∧ ∀ x ∈ xs, ∀ c, tl x = some (.cl c) → ∀ k ∈ c.2, k ∈ pool
theorem PoolN.ins {m : Nat} {xs ys : List V} {y0 : V} (h : PoolN m xs) (hy : ∀ y ∈ ys, y ∈ xs ∨ y = y0) : PoolN (m + 1) ys := by
  obtain ⟨pool, p1, p2⟩ := h.ex
  cases e : tl y0 with
  | none =>
    refine ⟨pool, by omega, fun x hx c hc => ?_⟩
    rcases hy x hx with z | z
    · exact p2 x z c hc
    · rw [z, e] at hc; cases hc
  | some t =>
    cases t with
    | as l =>
      refine ⟨pool, by omega, fun x hx c hc => ?_⟩
      rcases hy x hx with z | z
      · exact p2 x z c hc
      · rw [z, e] at hc; cases hc
    | cl c0 =>
      have w := (toldW_cl (show toldW (wds (lnO y0)) = some (.cl c0) from e)).2.2.2
      refine ⟨pool ++ c0.2, by rw [List.length_append]; omega, fun x hx c hc k hk => ?_⟩
      rcases hy x hx with z | z
      · exact List.mem_append_left _ (p2 x z c hc k hk)
      · rw [z, e] at hc
        cases hc
        exact List.mem_append_right _ hk
theorem PoolN.ok {m : Nat} {xs : List V} (h : PoolN m xs) (l : m ≤ 5) : PoolOk (xs.map tl) := by
  obtain ⟨pool, p1, p2⟩ := h.ex
  refine ⟨pool, by omega, fun c hc k hk => ?_⟩
  obtain ⟨x, hx, e⟩ := List.mem_map.mp hc
  exact p2 x hx c e k hk
theorem cutS_le (z : Str) (lo hi : Option Int) : (cutS z lo hi).length ≤ z.length ∧ ∀ c ∈ (cutS z lo hi).cps.toList, c ∈ z.cps.toList := by
  unfold cutS
  refine ⟨?_, fun c hc => ?_⟩
  · show (List.toArray _).size ≤ _
    rw [List.size_toArray]
    refine Nat.le_trans (List.take_sublist _ _).length_le ?_
    rw [List.length_drop]
    show z.cps.toList.length - _ ≤ z.cps.size
    rw [Array.length_toList]
    exact Nat.sub_le _ _
  · have hc' : c ∈ (z.cps.toList.drop (HT.sIx z.length 0 lo)).take (HT.sIx z.length z.length hi - HT.sIx z.length 0 lo) := by simpa using hc
    exact List.mem_of_mem_drop (List.mem_of_mem_take hc')
theorem cut_take (xs : List V) (r : Int) (h0 : 0 ≤ r) (h1 : r ≤ xs.length) : cutV xs none (some r) = xs.take r.toNat := by
  obtain ⟨k, rfl⟩ := Int.eq_ofNat_of_zero_le h0
  unfold cutV
  have z : HT.sIx xs.length xs.length (some (k : Int)) = min k xs.length := HT.sIx_nat _ _ k
  rw [z, HT.sIx_none, List.drop_zero, Nat.sub_zero, Nat.min_eq_left (by omega)]
  rfl
theorem cut_drop (xs : List V) (r : Int) (h0 : 0 ≤ r) : cutV xs (some r) none = xs.drop r.toNat := by
  obtain ⟨k, rfl⟩ := Int.eq_ofNat_of_zero_le h0
  exact cutV_drop xs k
theorem cutS_take_len (z : Str) (r : Int) (h : 0 ≤ r) : (cutS z none (some r)).length ≤ r.toNat := by
  obtain ⟨k, rfl⟩ := Int.eq_ofNat_of_zero_le h
  unfold cutS
  show (List.toArray _).size ≤ _
  rw [List.size_toArray]
  refine Nat.le_trans (List.length_take_le _ _) ?_
  have e : HT.sIx z.length z.length (some (k : Int)) = min k z.length := HT.sIx_nat _ _ k
  rw [e, HT.sIx_none]
  show min k z.length - 0 ≤ k
  omega
theorem cutS_drop_len (z : Str) (r : Int) (h : 0 ≤ r) : (cutS z (some r) none).length ≤ z.length - r.toNat := by
  obtain ⟨k, rfl⟩ := Int.eq_ofNat_of_zero_le h
  unfold cutS
  show (List.toArray _).size ≤ _
  rw [List.size_toArray]
  refine Nat.le_trans (List.length_take_le _ _) ?_
  have e : HT.sIx z.length 0 (some (k : Int)) = min k z.length := HT.sIx_nat _ _ k
  rw [e, HT.sIx_none]
  show z.length - min k z.length ≤ z.length - k
  omega
theorem DiceAt.sm {H H' : Hp} {p : Addr} (h : DiceAt H p) (s : Same H H') : DiceAt H' p := by
  obtain ⟨x, y, z, e⟩ := h
  exact ⟨x, y, z, s _ _ e⟩
theorem DiceAt.ne {H : Hp} {p l : Addr} (h : DiceAt H p) (hl : H l = none) : l ≠ p := by
  obtain ⟨x, y, z, e⟩ := h
  exact fun q => by rw [q, e] at hl; cases hl
instance okSdec (z : Str) : Decidable (okS z) := inferInstanceAs (Decidable (∀ c ∈ z.cps.toList, c < 0x110000))
def signs8 : List Str := [" ", "a", " a", "A", "1", "clause ", "s", ""]
theorem signs8_ok : ∀ s ∈ signs8, s.length ≤ 7 ∧ okS s := by decide +kernel
def odds11 : List Str := ["asked", "asked a", "asked a a", "clause r", "clause r a", "clause q a b c", "clause", "", "asked zz yy", "row r 1", " asked"]
def odds3 : List Str := ["clause row clause asked", "clause toolongname a", "clause w a a a a a a a a a"]
theorem odds_ok : (∀ s ∈ odds11, s.length ≤ 30 ∧ okS s) ∧ ∀ s ∈ odds3, s.length ≤ 30 ∧ okS s := by decide +kernel
theorem mem_take_drop {xs : List V} {v y : V} {i j : Nat} (h : y ∈ (xs.take i ++ [v]) ++ xs.drop j) : y ∈ xs ∨ y = v := by
  rcases List.mem_append.mp h with h | h
  · rcases List.mem_append.mp h with h | h
    · exact .inl (List.mem_of_mem_take h)
    · exact .inr (List.mem_singleton.mp h)
  · exact .inl (List.mem_of_mem_drop h)
abbrev sChg : Stmt := top 50
def spChg : Sp := fun vs H Q _ => ∃ (p a : Addr) (xs : List V) (n m : Nat), vs = [.ref p, .ref a] ∧ DiceAt H p ∧ a ≠ p ∧ H a = some (.lst xs) ∧ 0 < xs.length ∧ xs.length ≤ 20 ∧ 20 ≤ n ∧ n ≤ 500 ∧ (∀ x ∈ xs, LnP p n H x) ∧ PoolN m xs ∧
  ∀ ys l H', Kd p H H' → DiceAt H' p → l ≠ p → H' l = some (.lst ys) → ys.length ≤ xs.length + 1 → (∀ y ∈ ys, LnP p (n + 10) H' y) → PoolN (m + 1) ys → Q (.ref l) H'
theorem pt_imp {X : Cx} {e : Expr} {t t' : TT} (h : PT X e t) (ht : ∀ σ H Q, t' σ H Q → t σ H Q) : PT X e t' := ⟨fun pins s σ H Q I q => h.run pins s σ H Q I (ht σ H Q q)⟩
/-- the second way, at a text -/
def tWay (K : PySem.W.Frag) : TT := fun σ H Q => ∃ (wy r : Int) (a : Addr) (xs : List V) (v : V), σ[3]? = some (some (.int wy)) ∧ σ[1]? = some (some (.ref a)) ∧ σ[2]? = some (some (.int r)) ∧ SqL K H a xs ∧ atI xs r = some v ∧ Da H v ∧ ∀ b : Bool, (b = true → isStrV v = true) → Q b H
structure TCh (mg : Str → Option Value) : Prop where
  len : mg "len" = none
  isi : mg "isinstance" = none
  str : mg "str" = none
section
variable {P : Program} {w : World} {K : PySem.W.Frag} {mg : Str → Option Value} {base : Heap} {fR fP : Addr} {fdR fdP : FuncData}
abbrev nChg : List Str := ["_law_dice_here", "_law_lines", "_law_at", "_law_way", "_law_text", "_law_sign", "_law_spot", "_law_odd"]
theorem scChg : FnScope nChg ["_law_dice_here", "_law_lines"] (defScope sChg) := ⟨rfl, rfl, rfl, by decide +kernel, rfl, by decide +kernel, by decide +kernel⟩
theorem ok_chg {f : Addr} {fd : FuncData} (F : Fun K "_law_changed" "_law_changed" sChg f fd) (T : TCh mg)
    (eR : Gl K mg "_law_roll" fR) (GR : FnOk P w K mg base CX0 1 fR fdR ["_law_dice_here", "_law_total"] spRoll) (bR : Binds K fdR ["_law_dice_here", "_law_total"] [])
    (eP : Gl K mg "_law_pick" fP) (GP : FnOk P w K mg base CX0 2 fP fdP ["_law_dice_here", "_law_items"] spPick) (bP : Binds K fdP ["_law_dice_here", "_law_items"] []) :
    FnOk P w K mg base CX0 3 f fd ["_law_dice_here", "_law_lines"] spChg := by
  refine F.ok scChg (fun vs H Q E h => ?_) (fun cdv A outer s H vs Q E hr h => ?_)
  · obtain ⟨p, a, xs, n, m, rfl, _⟩ := h
    rfl
  · obtain ⟨p, a, xs, n, m, rfl, hp, hap, ha, h0, h20, n20, n5, hx, po, k⟩ := h
    have hr1 : Room 1 _ := hr.mono (by decide)
    refine ⟨_, pss_cons (ps_par (i := 2) (j := 3) rfl scChg.nd rfl rfl (by decide) rfl rfl (pa_cons (pe_call GR hr1 (by rfl) eR.g eR.k bR .nil pass0 (pa_cons (pv 0) (pa_cons (pe_callB call_len_seq (by rfl) T.len PySem.boot_len (pa_cons (pv 1) pa_nil)) pa_nil)))
          (pa_cons (pe_call GR hr1 (by rfl) eR.g eR.k bR .nil pass0 (pa_cons (pv 0) (pa_cons pe_int pa_nil))) pa_nil)) rfl)
      (pss_cons (ps_if (pt_cmpR op_eq (pv 3) pe_int (nomark _)) (pss_one (ps_ret (pe_op op_cat (pe_slice sl_list (pv 1) po_none (po_some (pv 2))) (pe_slice sl_list (pv 1) (po_some (pe_op op_add (pv 2) pe_int)) po_none)))) pss_nil)
      (pss_cons (ps_if (pt_cmpR op_eq (pv 3) pe_int (nomark _)) (pss_one (ps_ret (pe_op op_cat (pe_op op_cat (pe_slice sl_list (pv 1) po_none (po_some (pv 2))) (pe_lst (pa_cons (pe_call GP hr (by rfl) eP.g eP.k bP .nil pass0 (pa_cons (pv 0) (pa_cons (pv 1) pa_nil))) pa_nil)))
          (pe_slice sl_list (pv 1) (po_some (pv 2)) po_none)))) pss_nil)
      (pss_cons (ps_if (pt_imp (t' := tWay K) (PW.pt (pw_and (pt_cmpR op_eq (pv 3) pe_int (nomark _)) (pw_and1 (pt_val (pe_callB call_isi (by rfl) T.isi (by decide +kernel) (pa_cons (pe_ix ix_list (pv 1) (pv 2) (fun _ _ => rfl)) (pa_cons (pe_bltn (v := .ty "str") (by rfl) T.str (by decide +kernel) rfl) pa_nil))))))) (fun σ H Q h => ?_))
          (pss_cons (ps_par (i := 4) (j := 5) rfl scChg.nd rfl rfl (by decide) rfl rfl (pa_cons (pe_ix ix_list (pv 1) (pv 2) (fun _ _ => rfl)) (pa_cons (pe_call GP hr (by rfl) eP.g eP.k bP .nil pass0 (pa_cons (pv 0) (pa_cons (pe_lst (pa_cons pe_str (pa_cons pe_str (pa_cons pe_str (pa_cons pe_str (pa_cons pe_str (pa_cons pe_str (pa_cons pe_str (pa_cons pe_str pa_nil))))))))) pa_nil))) pa_nil)) rfl)
          (pss_cons (ps_set (i := 6) scChg.nd rfl (Or.inl rfl) (pe_call GR hr1 (by rfl) eR.g eR.k bR .nil pass0 (pa_cons (pv 0) (pa_cons (pe_op op_add (pe_callB call_len_str (by rfl) T.len PySem.boot_len (pa_cons (pv 4) pa_nil)) pe_int) pa_nil))))
          (pss_cons (ps_set (i := 4) scChg.nd rfl (Or.inl rfl) (pe_op op_add_str (pe_op op_add_str (pe_slice sl_str (pv 4) po_none (po_some (pv 6))) (pv 5)) (pe_slice sl_str (pv 4) (po_some (pe_op op_add (pv 6) (pe_call GR hr1 (by rfl) eR.g eR.k bR .nil pass0 (pa_cons (pv 0) (pa_cons pe_int pa_nil))))) po_none)))
          (pss_one (ps_ret (pe_op op_cat (pe_op op_cat (pe_slice sl_list (pv 1) po_none (po_some (pv 2))) (pe_lst (pa_cons (pv 4) pa_nil))) (pe_slice sl_list (pv 1) (po_some (pe_op op_add (pv 2) pe_int)) po_none))))))) pss_nil)
      (pss_cons (ps_set (i := 7) scChg.nd rfl (Or.inl rfl) (pe_lst (pa_cons pe_str (pa_cons pe_str (pa_cons pe_str (pa_cons pe_str (pa_cons pe_str (pa_cons pe_str (pa_cons pe_str (pa_cons pe_str (pa_cons pe_str (pa_cons pe_str (pa_cons pe_str pa_nil)))))))))))))
      (pss_cons (ps_set (i := 7) scChg.nd rfl (Or.inl rfl) (pe_op op_cat (pv 7) (pe_lst (pa_cons pe_non (pa_cons pe_int (pa_cons (pe_tup pa_nil) (pa_cons (pe_tup (pa_cons pe_str (pa_cons (pe_tup (pa_cons pe_str pa_nil)) pa_nil))) (pa_cons (pe_lst (pa_cons pe_str pa_nil)) (pa_cons pe_dnewK (pa_cons pe_str (pa_cons pe_str (pa_cons pe_str pa_nil))))))))))))
      (pss_one (ps_ret (pe_op op_cat (pe_op op_cat (pe_slice sl_list (pv 1) po_none (po_some (pv 2))) (pe_lst (pa_cons (pe_call GP hr (by rfl) eP.g eP.k bP .nil pass0 (pa_cons (pv 0) (pa_cons (pv 7) pa_nil))) pa_nil)))
          (pe_slice sl_list (pv 1) (po_some (pv 2)) po_none))))))))), ?_⟩
    case refine_1 =>
      obtain ⟨wy, r, a, xs, v, e3, e1, e2, hl, hv, d, kq⟩ := h
      refine ⟨_, e3, rfl, _, rfl, if_both (fun c => ?_) (fun c => kq false fun z => by cases z)⟩
      obtain ⟨ty, hty, kt⟩ := d.kStr
      exact ⟨_, e1, _, e2, a, xs, r, v, rfl, rfl, hl, hv, _, _, ty, _, isStrV v, rfl, .ty _, hty, kt, isStrV v, rfl, kq _ id⟩
    refine ⟨_, rfl, _, rfl, a, xs, rfl, .inl (SqL.of ha), p, _, rfl, hp, by omega, by omega, fun r H1 r0 r1 kd1 hp1 => ?_⟩
    refine ⟨_, rfl, p, _, rfl, hp1, by decide, by decide, fun wy H2 w0 w1 kd2 hp2 => ⟨_, _, rfl, ?_⟩⟩
    have kd := kd1.tr kd2
    have ha2 := kd _ _ hap ha
    have rl : r ≤ xs.length := by omega
    have rn : r.toNat < xs.length := by omega
    /- the end -/
    have fin : ∀ (y0 : V) (H' : Hp) (l : Addr) (ys : List V), Kd p H H' → DiceAt H' p → l ≠ p → H' l = some (.lst ys) → ys.length ≤ xs.length + 1 → (∀ y ∈ ys, y ∈ xs ∨ y = y0) → LnP p (n + 10) H' y0 → Q (.ref l) H' := fun y0 H' l ys kd' hp' nl e len mem ly =>
      k ys l H' kd' hp' nl e len (fun y hy => by
        rcases mem y hy with z | z
        · exact (hx y z).kd kd' (by omega)
        · rw [z]; exact ly) (po.ins mem)
    clear k
    refine ⟨_, rfl, rfl, _, rfl, if_both (fun c0 => ?_) (fun c0 => ?_)⟩
    · refine ⟨_, rfl, _, rfl, r, rfl, a, xs, rfl, SqL.of ha2, fun b hb => ?_⟩
      have s1 := K0.Same.new (.lst (cutV xs none (some r))) hb
      refine ⟨_, rfl, _, rfl, _, _, rfl, rfl, _, rfl, a, xs, rfl, SqL.of (s1 _ _ ha2), fun c hc => ?_⟩
      have s2 := K0.Same.new (.lst (cutV xs (some (r + 1)) none)) hc
      rw [cut_take xs r r0 rl, cut_drop xs (r + 1) (by omega)] at *
      have l1 : (xs.take r.toNat).length + (xs.drop (r + 1).toNat).length ≤ xs.length + 1 := by rw [List.length_take, List.length_drop]; omega
      refine ⟨b, c, _, _, rfl, rfl, s2 _ _ upd_same, upd_same, by rw [sizeLine_eq]; omega, fun l hl => ?_⟩
      have s3 := K0.Same.new (.lst (xs.take r.toNat ++ xs.drop (r + 1).toNat)) hl
      have s13 := K0.Same.tr s1 (K0.Same.tr s2 s3)
      refine fin .non _ l _ (kd.tr (Kd.of s13)) (hp2.sm s13) ((hp2.sm (K0.Same.tr s1 s2)).ne hl) upd_same (by rw [List.length_append]; exact l1) (fun y hy => .inl ?_) ⟨.non, fun e => (by cases e), fun z e => (by cases e)⟩
      rcases List.mem_append.mp hy with z | z
      · exact List.mem_of_mem_take z
      · exact List.mem_of_mem_drop z
    refine ⟨_, rfl, rfl, _, rfl, if_both (fun c1 => ?_) (fun c1 => ?_)⟩
    · refine ⟨_, rfl, _, rfl, r, rfl, a, xs, rfl, SqL.of ha2, fun b hb => ?_⟩
      have s1 := K0.Same.new (.lst (cutV xs none (some r))) hb
      have hpb := hp2.sm s1
      have nb := hp2.ne hb
      refine ⟨_, rfl, _, rfl, p, a, xs, rfl, hpb, hap, s1 _ _ ha2, h0, by omega, fun v H4 vm kd4 hp4 => ⟨by show 1 ≤ sizeLine; decide, fun c hc => ?_⟩⟩
      have eb4 := kd4 _ _ nb (upd_same (H := H2) (a := b) (o := .lst (cutV xs none (some r))))
      have ha4 := kd4 _ _ hap (s1 _ _ ha2)
      have s2 := K0.Same.new (.lst [v]) hc
      rw [cut_take xs r r0 rl] at *
      refine ⟨b, c, _, _, rfl, rfl, s2 _ _ eb4, upd_same, by rw [List.length_take, sizeLine_eq]; simp only [List.length_cons, List.length_nil]; omega, fun d hd => ?_⟩
      have s3 := K0.Same.new (.lst (xs.take r.toNat ++ [v])) hd
      refine ⟨_, rfl, _, rfl, r, rfl, a, xs, rfl, SqL.of (s3 _ _ (s2 _ _ ha4)), fun e he => ?_⟩
      have s4 := K0.Same.new (.lst (cutV xs (some r) none)) he
      rw [cut_drop xs r r0] at *
      have l1 : (xs.take r.toNat ++ [v]).length + (xs.drop r.toNat).length ≤ xs.length + 1 := by rw [List.length_append, List.length_take, List.length_drop]; simp only [List.length_cons, List.length_nil]; omega
      refine ⟨d, e, _, _, rfl, rfl, s4 _ _ upd_same, upd_same, by rw [sizeLine_eq]; omega, fun l hl => ?_⟩
      have s5 := K0.Same.new (.lst ((xs.take r.toNat ++ [v]) ++ xs.drop r.toNat)) hl
      have s24 := K0.Same.tr s2 (K0.Same.tr s3 s4)
      have s25 := K0.Same.tr s24 s5
      have kdF : Kd p H _ := kd.tr ((Kd.of s1).tr (kd4.tr (Kd.of s25)))
      exact fin v _ l _ kdF (hp4.sm s25) ((hp4.sm s24).ne hl) upd_same (by rw [List.length_append]; exact l1) (fun y hy => mem_take_drop hy) ((hx v vm).kd kdF (by omega))
    refine ⟨wy, r, a, xs, xs[r.toNat], rfl, rfl, rfl, SqL.of ha2, ?_, ((hx _ (List.getElem_mem rn)).kd kd (Nat.le_refl _)).1, fun bb hbb => ?_⟩
    · have e : atI xs ((r.toNat : Nat) : Int) = some xs[r.toNat] := atI_nat (List.getElem?_eq_getElem rn)
      have e2 : ((r.toNat : Nat) : Int) = r := Int.toNat_of_nonneg r0
      rw [e2] at e
      exact e
    refine if_both (fun c2 => ?_) (fun c2 => ?_)
    · obtain ⟨z, ez⟩ := isStr_at (hbb c2)
      have eat : atI xs r = some (.str z) := by
        have e : atI xs ((r.toNat : Nat) : Int) = some xs[r.toNat] := atI_nat (List.getElem?_eq_getElem rn)
        have e2 : ((r.toNat : Nat) : Int) = r := Int.toNat_of_nonneg r0
        rw [e2, ez] at e
        exact e
      obtain ⟨zn, zo⟩ := (hx _ (List.getElem_mem rn)).2.2 z ez
      have zl : z.length ≤ sizeLine := by rw [sizeLine_eq]; omega
      refine ⟨_, rfl, _, rfl, a, xs, r, .str z, rfl, rfl, SqL.of ha2, eat, _, rfl, by show 8 ≤ sizeLine; decide, fun b hb => ?_⟩
      have s1 := K0.Same.new (.lst (signs8.map V.str)) hb
      refine ⟨p, b, signs8.map V.str, rfl, hp2.sm s1, hp2.ne hb, upd_same, by decide, by decide, fun sg H4 sm kd4 hp4 => ⟨_, _, rfl, ?_⟩⟩
      obtain ⟨s0, s0m, rfl⟩ := List.mem_map.mp sm
      obtain ⟨s0l, s0o⟩ := signs8_ok s0 s0m
      refine ⟨_, rfl, _, rfl, z, rfl, zl, _, _, rfl, rfl, p, _, rfl, hp4, by omega, by omega, fun r3 H5 r30 r31 kd5 hp5 => ?_⟩
      obtain ⟨t1, t2⟩ := cutS_le z none (some r3)
      have t3 := cutS_take_len z r3 r30
      refine ⟨_, rfl, _, rfl, r3, rfl, z, rfl, zl, _, rfl, cutS z none (some r3), s0, rfl, rfl, by rw [sizeLine_eq]; omega, ?_⟩
      refine ⟨_, rfl, _, rfl, _, rfl, p, _, rfl, hp5, by decide, by decide, fun r4 H6 r40 r41 kd6 hp6 => ?_⟩
      obtain ⟨u1, u2⟩ := cutS_le z (some (r3 + r4)) none
      have u3 := cutS_drop_len z (r3 + r4) (by omega)
      refine ⟨_, _, rfl, rfl, _, rfl, z, rfl, zl, _, _, rfl, rfl, by rw [Str.length_append, sizeLine_eq]; omega, ?_⟩
      have zz : ((cutS z none (some r3) ++ s0) ++ cutS z (some (r3 + r4)) none).length ≤ n + 10 := by
        rw [Str.length_append, Str.length_append]
        omega
      have zo2 : okS ((cutS z none (some r3) ++ s0) ++ cutS z (some (r3 + r4)) none) := okS_app (okS_app (fun c hc => zo c (t2 c hc)) s0o) (fun c hc => zo c (u2 c hc))
      generalize (cutS z none (some r3) ++ s0) ++ cutS z (some (r3 + r4)) none = y at zz zo2
      have kd6' : Kd p H H6 := kd.tr ((Kd.of s1).tr (kd4.tr (kd5.tr kd6)))
      have ha6 := kd6' _ _ hap ha
      refine ⟨_, rfl, _, rfl, r, rfl, a, xs, rfl, SqL.of ha6, fun b2 hb2 => ?_⟩
      have v1 := K0.Same.new (.lst (cutV xs none (some r))) hb2
      refine ⟨_, rfl, by show 1 ≤ sizeLine; decide, fun c hc => ?_⟩
      have v2 := K0.Same.new (.lst [V.str y]) hc
      rw [cut_take xs r r0 rl] at *
      refine ⟨b2, c, _, _, rfl, rfl, v2 _ _ upd_same, upd_same, by rw [List.length_take, sizeLine_eq]; simp only [List.length_cons, List.length_nil]; omega, fun d hd => ?_⟩
      have v3 := K0.Same.new (.lst (xs.take r.toNat ++ [V.str y])) hd
      refine ⟨_, rfl, _, rfl, _, _, rfl, rfl, _, rfl, a, xs, rfl, SqL.of (v3 _ _ (v2 _ _ (v1 _ _ ha6))), fun e he => ?_⟩
      have v4 := K0.Same.new (.lst (cutV xs (some (r + 1)) none)) he
      rw [cut_drop xs (r + 1) (by omega)] at *
      have l1 : (xs.take r.toNat ++ [V.str y]).length + (xs.drop (r + 1).toNat).length ≤ xs.length + 1 := by rw [List.length_append, List.length_take, List.length_drop]; simp only [List.length_cons, List.length_nil]; omega
      refine ⟨d, e, _, _, rfl, rfl, v4 _ _ upd_same, upd_same, by rw [sizeLine_eq]; omega, fun l hl => ?_⟩
      have v5 := K0.Same.new (.lst ((xs.take r.toNat ++ [V.str y]) ++ xs.drop (r + 1).toNat)) hl
      have v14 := K0.Same.tr v1 (K0.Same.tr v2 (K0.Same.tr v3 v4))
      have v15 := K0.Same.tr v14 v5
      exact fin (.str y) _ l _ (kd6'.tr (Kd.of v15)) (hp6.sm v15) ((hp6.sm v14).ne hl) upd_same (by rw [List.length_append]; exact l1) (fun y hy => mem_take_drop hy) (LnP.str zz zo2)
    · refine ⟨by show 11 ≤ sizeLine; decide, fun o1 ho1 => ?_⟩
      have q1 := K0.Same.new (.lst (odds11.map V.str)) ho1
      refine ⟨_, rfl, by show 0 ≤ sizeLine; decide, fun t1 ht1 => ?_⟩
      have q2 := K0.Same.new (.tup []) ht1
      refine ⟨by show 1 ≤ sizeLine; decide, fun t2 ht2 => ?_⟩
      have q3 := K0.Same.new (.tup [V.str "a"]) ht2
      refine ⟨by show 2 ≤ sizeLine; decide, fun t3 ht3 => ?_⟩
      have q4 := K0.Same.new (.tup [V.str "r", .ref t2]) ht3
      refine ⟨by show 1 ≤ sizeLine; decide, fun t4 ht4 => ?_⟩
      have q5 := K0.Same.new (.lst [V.str "asked"]) ht4
      intro t5 ht5
      have q6 := K0.Same.new (.dK []) ht5
      refine ⟨by show 9 ≤ sizeLine; decide, fun o2 ho2 => ?_⟩
      have q7 := K0.Same.new (.lst ([V.non, .int 0, .ref t1, .ref t3, .ref t4, .ref t5] ++ odds3.map V.str)) ho2
      have q17 := K0.Same.tr q2 (K0.Same.tr q3 (K0.Same.tr q4 (K0.Same.tr q5 (K0.Same.tr q6 q7))))
      refine ⟨o1, o2, odds11.map V.str, [V.non, .int 0, .ref t1, .ref t3, .ref t4, .ref t5] ++ odds3.map V.str, rfl, rfl, q17 _ _ upd_same, upd_same, by show 11 + 9 ≤ sizeLine; decide, fun o3 ho3 => ?_⟩
      have q8 := K0.Same.new (.lst (odds11.map V.str ++ ([V.non, .int 0, .ref t1, .ref t3, .ref t4, .ref t5] ++ odds3.map V.str))) ho3
      have qa := K0.Same.tr q1 q17
      have qA := K0.Same.tr qa q8
      have hpA := hp2.sm qA
      have haA := qA _ _ ha2
      have n3 : o3 ≠ p := (hp2.sm qa).ne ho3
      have e1 := LnP.tupS (p := p) (a := t1) (n := n + 10) (K0.Same.tr q3 (K0.Same.tr q4 (K0.Same.tr q5 (K0.Same.tr q6 (K0.Same.tr q7 q8))))) upd_same ((hp2.sm q1).ne ht1)
      have e3 := LnP.tupS (p := p) (a := t3) (n := n + 10) (K0.Same.tr q5 (K0.Same.tr q6 (K0.Same.tr q7 q8))) upd_same ((hp2.sm (K0.Same.tr q1 (K0.Same.tr q2 q3))).ne ht3)
      have e4 := LnP.lstS (p := p) (a := t4) (n := n + 10) (K0.Same.tr q6 (K0.Same.tr q7 q8)) upd_same ((hp2.sm (K0.Same.tr q1 (K0.Same.tr q2 (K0.Same.tr q3 q4)))).ne ht4)
      have e5 := LnP.dKS (p := p) (a := t5) (n := n + 10) (K0.Same.tr q7 q8) upd_same ((hp2.sm (K0.Same.tr q1 (K0.Same.tr q2 (K0.Same.tr q3 (K0.Same.tr q4 q5))))).ne ht5)
      refine ⟨_, rfl, _, rfl, r, rfl, a, xs, rfl, SqL.of haA, fun b hb => ?_⟩
      have s1 := K0.Same.new (.lst (cutV xs none (some r))) hb
      have hpb := hpA.sm s1
      have nb := hpA.ne hb
      refine ⟨_, rfl, _, rfl, p, o3, _, rfl, hpb, n3, s1 _ _ upd_same, by show 0 < 20; decide, by show 20 ≤ 1000; decide, fun v H4 vm kd4 hp4 => ⟨by show 1 ≤ sizeLine; decide, fun c hc => ?_⟩⟩
      have eb4 := kd4 _ _ nb (upd_same (a := b) (o := .lst (cutV xs none (some r))))
      have ha4 := kd4 _ _ hap (s1 _ _ haA)
      have s2 := K0.Same.new (.lst [v]) hc
      rw [cut_take xs r r0 rl] at *
      refine ⟨b, c, _, _, rfl, rfl, s2 _ _ eb4, upd_same, by rw [List.length_take, sizeLine_eq]; simp only [List.length_cons, List.length_nil]; omega, fun d hd => ?_⟩
      have s3 := K0.Same.new (.lst (xs.take r.toNat ++ [v])) hd
      refine ⟨_, rfl, _, rfl, r, rfl, a, xs, rfl, SqL.of (s3 _ _ (s2 _ _ ha4)), fun e he => ?_⟩
      have s4 := K0.Same.new (.lst (cutV xs (some r) none)) he
      rw [cut_drop xs r r0] at *
      have l1 : (xs.take r.toNat ++ [v]).length + (xs.drop r.toNat).length ≤ xs.length + 1 := by rw [List.length_append, List.length_take, List.length_drop]; simp only [List.length_cons, List.length_nil]; omega
      refine ⟨d, e, _, _, rfl, rfl, s4 _ _ upd_same, upd_same, by rw [sizeLine_eq]; omega, fun l hl => ?_⟩
      have s5 := K0.Same.new (.lst ((xs.take r.toNat ++ [v]) ++ xs.drop r.toNat)) hl
      have s24 := K0.Same.tr s2 (K0.Same.tr s3 s4)
      have s25 := K0.Same.tr s24 s5
      have kdA : Kd p _ _ := (Kd.of s1).tr (kd4.tr (Kd.of s25))
      have kdF : Kd p H _ := (kd.tr (Kd.of qA)).tr kdA
      refine fin v _ l _ kdF (hp4.sm s25) ((hp4.sm s24).ne hl) upd_same (by rw [List.length_append]; exact l1) (fun y hy => mem_take_drop hy) ?_
      rcases List.mem_append.mp vm with vm | vm
      · obtain ⟨z, hz, rfl⟩ := List.mem_map.mp vm
        obtain ⟨z1, z2⟩ := odds_ok.1 z hz
        exact LnP.str (by omega) z2
      rcases List.mem_append.mp vm with vm | vm
      · rcases List.mem_cons.mp vm with rfl | vm
        · exact ⟨.non, fun e => (by cases e), fun z e => (by cases e)⟩
        rcases List.mem_cons.mp vm with rfl | vm
        · exact ⟨.int 0, fun e => (by cases e), fun z e => (by cases e)⟩
        rcases List.mem_cons.mp vm with rfl | vm
        · exact e1.kd kdA (Nat.le_refl _)
        rcases List.mem_cons.mp vm with rfl | vm
        · exact e3.kd kdA (Nat.le_refl _)
        rcases List.mem_cons.mp vm with rfl | vm
        · exact e4.kd kdA (Nat.le_refl _)
        obtain rfl := List.mem_singleton.mp vm
        exact e5.kd kdA (Nat.le_refl _)
      · obtain ⟨z, hz, rfl⟩ := List.mem_map.mp vm
        obtain ⟨z1, z2⟩ := odds_ok.2 z hz
        exact LnP.str (by omega) z2
end
end K0

/-! ## X18 -/
set_option maxRecDepth 100000
set_option maxHeartbeats 8000000
namespace K0
open PySem L2 NS RZ
/-! ### what the law needs of lines -/
theorem runF_lt : ∀ (L : List (Option LT)) (k : Nat) (s : FS) (n : Nat), runF k s L = .inl n → n < k + L.length
  | [], k, s, n, h => by cases h
  | t :: L, k, s, n, h => by
    cases e : stepF s t with
    | none =>
      rw [runF_none e] at h
      cases h
      rw [List.length_cons]
      omega
    | some s' =>
      rw [runF_some e] at h
      have z := runF_lt L (k + 1) s' n h
      rw [List.length_cons]
      omega
theorem res_ix {L : List (Option LT)} {r : Res} (h : ResR L r) (l : L.length ≤ 9) : ∀ n, r = .ix n → n ≤ 9 := fun n e => by
  subst e
  cases h with
  | ix h =>
    have z := runF_lt _ _ _ _ h
    omega
theorem res_wf {L : List (Option LT)} {r : Res} (h : ResR L r) : ∀ q, r = .pl q → WfQ q := fun q e => by
  subst e
  cases h with
  | pl h up mem ok => exact ok
/-- a question's lines, in any order -/
theorem lines_pool {q : PQ} (g : WfQ q) {ys : List V} (pm : ys.Perm ((linesQ q).map V.str)) : PoolN 0 ys := by
  obtain ⟨pool, p1, p2⟩ := g.c.cols
  refine ⟨pool, by omega, fun x hx c e k hk => ?_⟩
  have m : some (LT.cl c) ∈ ((linesQ q).map V.str).map tl := List.mem_map.mpr ⟨x, pm.mem_iff.mp hx, e⟩
  rw [lines_tl g] at m
  rcases List.mem_append.mp m with m | m
  · obtain ⟨c', hc', ec⟩ := List.mem_map.mp m
    injection ec with ec
    injection ec with ec
    rw [ec] at hc'
    exact p2 c hc' k hk
  · rw [List.mem_singleton] at m
    injection m with m
    cases m
theorem PoolN.le {m n : Nat} {xs : List V} (h : PoolN m xs) (l : m ≤ n) : PoolN n xs := by
  obtain ⟨pool, p1, p2⟩ := h.ex
  exact ⟨pool, by omega, p2⟩
theorem lines_lnp {q : PQ} (g : WfQ q) {ys : List V} (pm : ys.Perm ((linesQ q).map V.str)) (p : Addr) (H : Hp) : ∀ x ∈ ys, LnP p 100 H x := fun x hx => by
  obtain ⟨z, hz, rfl⟩ := List.mem_map.mp (pm.mem_iff.mp hx)
  obtain ⟨h1, h2⟩ := line_short g z hz
  exact LnP.str h1 h2
theorem lines_len {q : PQ} (g : GoodP q) : 2 ≤ (linesQ q).length ∧ (linesQ q).length ≤ 8 := by
  have h1 : 0 < q.cls.length := List.length_pos_iff.mpr g.cls.some_
  have h2 := g.cls.few
  unfold linesQ
  rw [List.length_append, List.length_map]
  show 2 ≤ _ + 1 ∧ _ + 1 ≤ 8
  omega
theorem LnP.sh {p : Addr} {n : Nat} {H : Hp} {x : V} (h : LnP p n H x) (l : n ≤ 900) : Da H x ∧ ShT x := ⟨h.1, fun z e => ⟨Nat.le_trans (h.2.2 z e).1 l, (h.2.2 z e).2⟩⟩
theorem lines_res {q : PQ} (g : WfQ q) {ys : List V} (pm : ys.Perm ((linesQ q).map V.str)) : ResR (ys.map tl) (.pl q) := by
  refine res_lines g ?_
  rw [← lines_tl g]
  exact pm.map tl
theorem cut_last (xs : List V) (z : V) : cutV (xs ++ [z]) none (some (-1)) = xs := by
  unfold cutV
  have e : HT.sIx (xs ++ [z]).length (xs ++ [z]).length (some (-1)) = xs.length := by
    show (if (-1 : Int) < 0 then ((-1 : Int) + ((xs ++ [z]).length : Int)).toNat else min (-1 : Int).toNat (xs ++ [z]).length) = _
    rw [if_pos (by decide), List.length_append]
    simp only [List.length_cons, List.length_nil]
    omega
  rw [e, HT.sIx_none, List.drop_zero, Nat.sub_zero, List.take_left]
theorem lines_cut (q : PQ) : cutV ((linesQ q).map V.str) none (some (-1)) = (q.cls.map lineC).map V.str := by
  unfold linesQ
  rw [List.map_append]
  exact cut_last _ _
theorem cut_tl {q : PQ} (g : WfQ q) : ((q.cls.map lineC).map V.str).map tl = q.cls.map fun c => some (LT.cl c) := by
  have h := lines_tl g
  unfold linesQ at h
  rw [List.map_append, List.map_append] at h
  exact (List.append_inj h (by rw [List.length_map, List.length_map, List.length_map, List.length_map])).1
/-! ### the written lines -/
def rab : CL := ("r", ["a", "b"])
def ra1 : CL := ("r", ["a"])
theorem not_none (a : List Str) : ¬ WfQ ⟨[], a⟩ := fun g => g.c.some_ rfl
theorem res0 : ResR [] .qu := .qu (s := ([], none)) (cs := []) rfl .nil (fun c => Iff.rfl) (not_none _)
theorem tlA : tl (.str "asked") = some (.as []) := asked_told (l := []) (fun k h => by cases h) List.nodup_nil
theorem res1 : ResR ([V.str "asked"].map tl) .qu := by
  show ResR [tl (.str "asked")] .qu
  rw [tlA]
  exact .qu (s := ([], some [])) (cs := []) rfl .nil (fun c => Iff.rfl) (not_none _)
theorem tlR2 : tl (.str "clause r a b") = some (.cl rab) := line_told (c := rab) (by decide +kernel) (by decide +kernel) (by decide +kernel)
theorem tlR1 : tl (.str "clause r a") = some (.cl ra1) := line_told (c := ra1) (by decide +kernel) (by decide +kernel) (by decide +kernel)
theorem res2 : ResR ([V.str "clause r a b", V.str "clause r a"].map tl) .qu := by
  show ResR [tl (.str "clause r a b"), tl (.str "clause r a")] .qu
  rw [tlR2, tlR1]
  have e : runF 0 ([], none) [some (.cl rab), some (.cl ra1)] = .inr ([rab, ra1], none) := by
    rw [runF_some (s' := ([rab], none)) (by show (if rab ∈ [] then none else _) = _; rw [if_neg (by simp)]; rfl), runF_some (s' := ([rab, ra1], none)) (by show (if ra1 ∈ [rab] then none else _) = _; rw [if_neg (by decide +kernel)]; rfl)]
    rfl
  refine .qu (cs := [ra1, rab]) e (.cons (fun c hc => ?_) (.cons (fun c hc => by cases hc) .nil)) (fun c => ?_) (fun g => ?_)
  · rw [List.mem_singleton.mp hc]
    decide +kernel
  · show c ∈ [ra1, rab] ↔ c ∈ [rab, ra1]
    simp only [List.mem_cons, List.not_mem_nil, or_false]
    exact Or.comm
  · have z := g.c.same ra1 List.mem_cons_self rab (List.mem_cons_of_mem _ List.mem_cons_self) rfl
    exact absurd z (by decide)
theorem pool0 : PoolOk [] := ⟨[], by decide, fun c h => by cases h⟩
theorem pool1 : PoolOk ([V.str "asked"].map tl) := ⟨[], by decide, fun c h => by
  rw [show [V.str "asked"].map tl = [tl (.str "asked")] from rfl, tlA, List.mem_singleton] at h
  cases h⟩
theorem pool2 : PoolOk ([V.str "clause r a b", V.str "clause r a"].map tl) := ⟨["a", "b"], by decide, fun c h k hk => by
  rw [show [V.str "clause r a b", V.str "clause r a"].map tl = [tl (.str "clause r a b"), tl (.str "clause r a")] from rfl, tlR2, tlR1] at h
  rcases List.mem_cons.mp h with h | h
  · cases h
    exact hk
  · rw [List.mem_singleton] at h
    cases h
    exact List.mem_cons.mpr (.inl (List.mem_singleton.mp hk))⟩
theorem okS_lit {z : Str} (h : PyData.strOk z = true) : okS z := okS_of h
def que3 : PyData := .list [.str "question", .str "question", .str "question"]
theorem que3_sh : SeqAt.shaped que3 = true := by decide +kernel
theorem que3_eq : PyData.eqv que3 que3 = true := by decide +kernel
end K0

/-! ## X19 -/
set_option maxRecDepth 100000
set_option maxHeartbeats 8000000
namespace K0
open PySem L2 NS RZ
/-! ### the law -/
abbrev sLaw : Stmt := top 51
abbrev nLaw : List Str := ["_law_script", "_law_spot", "_law_dice_here", "_law_turn", "_law_plain", "_law_lines", "_law_again", "_law_some"]
theorem scLaw : FnScope nLaw ["_law_script"] (defScope sLaw) := ⟨rfl, rfl, rfl, by decide +kernel, rfl, by decide +kernel, by decide +kernel⟩
def spLaw (K : PySem.W.Frag) : Sp := fun vs H Q _ => ∃ (a : Addr) (ns : List Int), vs = [.ref a] ∧ SqL K H a (ns.map V.int) ∧ ∀ H', Q (.bl true) H'
theorem sq_kd {K : PySem.W.Frag} {H H' : Hp} {p a : Addr} {xs : List V} (h : SqL K H a xs) (hp : H p = none) (k : Kd p H H') : SqL K H' a xs := by
  rcases h with h | h
  · rcases h with q | ⟨o, q⟩
    · exact .inl (.inl (k _ _ (ne_of_none q hp) q))
    · exact .inl (.inr ⟨o, k _ _ (ne_of_none q hp) q⟩)
  · exact .inr h
structure LL (P : Program) (w : World) (K : PySem.W.Frag) (mg : Str → Option Value) (base : Heap) (C fD fR fA fM fX fL fT fC fU : Addr) (fdD fdR fdA fdM fdX fdL fdT fdC fdU : FuncData) : Prop where
  len : mg "len" = none
  max : mg "max" = none
  min : mg "min" = none
  rng : mg "range" = none
  list : mg "list" = none
  repr : mg "repr" = none
  eD : Gl K mg "_law_dice" fD
  GD : FnOk P w K mg base CX0 1 fD fdD ["_law_script", "_law_spot"] (spDice K)
  bD : Binds K fdD ["_law_script", "_law_spot"] []
  eR : Gl K mg "_law_roll" fR
  GR : FnOk P w K mg base CX0 1 fR fdR ["_law_dice_here", "_law_total"] spRoll
  bR : Binds K fdR ["_law_dice_here", "_law_total"] []
  eA : Gl K mg "_law_any" fA
  GA : FnOk P w K mg base CX0 5 fA fdA ["_law_dice_here", "_law_most"] spAny
  bA : Binds K fdA ["_law_dice_here", "_law_most"] []
  eM : Gl K mg "_law_made" fM
  GM : FnOk P w K mg base CX0 7 fM fdM ["_law_plain"] (spMade2 K C)
  bM : Binds K fdM ["_law_plain"] []
  eX : Gl K mg "_law_mixed" fX
  GX : FnOk P w K mg base CX0 2 fX fdX ["_law_dice_here", "_law_items"] spMixed
  bX : Binds K fdX ["_law_dice_here", "_law_items"] []
  eL : Gl K mg "_law_question_lines" fL
  GL : FnOk P w K mg base CX0 1 fL fdL ["_law_plain"] spLLin
  bL : Binds K fdL ["_law_plain"] []
  eT : Gl K mg "_law_told" fT
  GT : FnOk P w K mg base CX0 10 fT fdT ["_law_values"] (spTold K)
  bT : Binds K fdT ["_law_values"] []
  eC : Gl K mg "_law_changed" fC
  GC : FnOk P w K mg base CX0 3 fC fdC ["_law_dice_here", "_law_lines"] spChg
  bC : Binds K fdC ["_law_dice_here", "_law_lines"] []
  eU : Gl K mg "_law_due" fU
  GU : FnOk P w K mg base CX0 3 fU fdU ["_law_values"] (spDue K)
  bU : Binds K fdU ["_law_values"] []
  cl : L2.Cls K C
  lin : Getter P w K mg base C 1 "lines" (spLines K C)
section
variable {P : Program} {w : World} {K : PySem.W.Frag} {mg : Str → Option Value} {base : Heap} {C fD fR fA fM fX fL fT fC fU : Addr} {fdD fdR fdA fdM fdX fdL fdT fdC fdU : FuncData}
theorem ok_law {f : Addr} {fd : FuncData} (F : Fun K "law" "law" sLaw f fd) (L : LL P w K mg base C fD fR fA fM fX fL fT fC fU fdD fdR fdA fdM fdX fdL fdT fdC fdU) :
    FnG P w K mg base CX0 11 f fd ["_law_script"] (spLaw K) := by
  refine gfn F scLaw (fun vs H Q E h => ?_) (fun cdv A outer s H vs Q E hr hgd h => ?_)
  · obtain ⟨a, ns, rfl, _⟩ := h
    rfl
  · obtain ⟨a, ns, rfl, hS, k⟩ := h
    have hr1 : Room 1 _ := hr.mono (by decide)
    have hr2 : Room 2 _ := hr.mono (by decide)
    have hr3 : Room 3 _ := hr.mono (by decide)
    have hr5 : Room 5 _ := hr.mono (by decide)
    have hr7 : Room 7 _ := hr.mono (by decide)
    have hu := hr.units
    have hu6 : (A.deeper (PyProof.Rows.envOfC (Str.ofString "law") (defScope sLaw) s.heap.objs.size f cdv)).units + 66 < cLine := by
      have z := hr.un
      omega
    refine ⟨_, PSs.nox (C8.pss_cut (ps_for PassesOwn.never rfl (pi_range1 (by rfl) L.rng (pa_cons (pe_callB (call_max2 rfl) (by rfl) L.max (by decide +kernel) (pa_cons pe_int (pa_cons (pe_callB (call_min2 rfl) (by rfl) L.min (by decide +kernel) (pa_cons pe_int (pa_cons (pe_callB call_len_seq (by rfl) L.len PySem.boot_len (pa_cons (pv 0) pa_nil)) pa_nil))) pa_nil))) pa_nil)) (pg_name (i := 1) scLaw.nd rfl (Or.inl rfl))
        (pss_cons (ps_set (i := 2) scLaw.nd rfl (Or.inl rfl) (pe_call L.GD hr1 (by rfl) L.eD.g L.eD.k L.bD .nil pass0 (pa_cons (pv 0) (pa_cons (pv 1) pa_nil))))
        (pss_one (ps_for PassesOwn.never rfl (pi_range1 (by rfl) L.rng (pa_cons pe_int pa_nil)) (pg_name (i := 3) scLaw.nd rfl (Or.inl rfl))
          (pss_cons (ps_set (i := 4) scLaw.nd rfl (Or.inl rfl) (pe_call L.GA hr5 (by rfl) L.eA.g L.eA.k L.bA .nil pass0 (pa_cons (pv 2) (pa_cons pe_int pa_nil))))
          (pss_cons (ps_set (i := 5) scLaw.nd rfl (Or.inl rfl) (pe_call L.GL hr1 (by rfl) L.eL.g L.eL.k L.bL .nil pass0 (pa_cons (pv 4) pa_nil)))
          (pss_cons (ps_if (PW.pt (pw_or (pt_cmpR (op_neP hu6) (pe_call L.GT hr (by rfl) L.eT.g L.eT.k L.bT .nil pass0 (pa_cons (pe_call L.GX hr2 (by rfl) L.eX.g L.eX.k L.bX .nil pass0 (pa_cons (pv 2) (pa_cons (pv 5) pa_nil))) pa_nil)) (pv 4) (nomark _))
              (pw_or1 (pt_cmpR (op_neD hu) (pv 5) (pe_callTy call_list_of (by rfl) L.list (by decide +kernel) (pa_cons (pe_gtr L.lin L.cl hr2 (pe_call L.GM hr7 (by rfl) L.eM.g L.eM.k L.bM .nil pass0 (pa_cons (pv 4) pa_nil))) pa_nil)) (nomark _)))))
            (pss_one (ps_ret pe_bl)) pss_nil)
          (pss_cons (ps_if (pt_cmpR (op_neP hu6) (pe_call L.GT hr (by rfl) L.eT.g L.eT.k L.bT .nil pass0 (pa_cons (pe_slice sl_list (pv 5) po_none (po_some (pe_un un_neg pe_int))) pa_nil))
              (pe_disp (pps_cons pe_str (pe_dget (lt1 hu) (pv 4) pe_str (fun _ _ => rfl)) (pps_cons pe_str (pe_lst pa_nil) pps_nil)) rfl rfl (by decide) (by decide)) (nomark _))
            (pss_one (ps_ret pe_bl)) pss_nil)
          (pss_one (ps_for PassesOwn.never rfl (pi_range1 (by rfl) L.rng (pa_cons pe_int pa_nil)) (pg_name (i := 6) scLaw.nd rfl (Or.inl rfl))
            (pss_cons (ps_set (i := 7) scLaw.nd rfl (Or.inl rfl) (pe_call L.GC hr3 (by rfl) L.eC.g L.eC.k L.bC .nil pass0 (pa_cons (pv 2) (pa_cons (pe_call L.GX hr2 (by rfl) L.eX.g L.eX.k L.bX .nil pass0 (pa_cons (pv 2) (pa_cons (pv 5) pa_nil))) pa_nil))))
            (C8.pss_cut (ps_if (PW.pt (pw_and (pt_cmpR op_gt (pe_callB call_len_seq (by rfl) L.len PySem.boot_len (pa_cons (pv 7) pa_nil)) pe_int (nomark _)) (pw_and (pt_cmpR op_lt (pe_callB call_len_seq (by rfl) L.len PySem.boot_len (pa_cons (pv 7) pa_nil)) pe_int (nomark _))
                (pw_and1 (pt_cmpR op_eq (pe_call L.GR hr1 (by rfl) L.eR.g L.eR.k L.bR .nil pass0 (pa_cons (pv 2) (pa_cons pe_int pa_nil))) pe_int (nomark _))))))
              (pss_one (ps_set (i := 7) scLaw.nd rfl (Or.inl rfl) (pe_call L.GC hr3 (by rfl) L.eC.g L.eC.k L.bC .nil pass0 (pa_cons (pv 2) (pa_cons (pv 7) pa_nil))))) pss_nil)
            (pss_one (ps_if (PW.pt (pw_and (pt_cmpR op_lt (pe_callB call_len_seq (by rfl) L.len PySem.boot_len (pa_cons (pv 7) pa_nil)) pe_int (nomark _))
                (pw_and1 (pt_cmpR op_ne (pe_callB (cr_reprL hgd hu) (by rfl) L.repr (by decide +kernel) (pa_cons (pe_call L.GT hr (by rfl) L.eT.g L.eT.k L.bT .nil pass0 (pa_cons (pv 7) pa_nil)) pa_nil))
                  (pe_callB (cr_reprL hgd hu) (by rfl) L.repr (by decide +kernel) (pa_cons (pe_call L.GU hr3 (by rfl) L.eU.g L.eU.k L.bU .nil pass0 (pa_cons (pv 7) pa_nil)) pa_nil)) (nomark _)))))
              (pss_one (ps_ret pe_bl)) pss_nil))))))))))))))
      (pss_one (ps_ret (pe_cmpR (op_eqD hu) (pe_lst (pa_cons (pe_call L.GT hr (by rfl) L.eT.g L.eT.k L.bT .nil pass0 (pa_cons (pe_lst pa_nil) pa_nil))
          (pa_cons (pe_call L.GT hr (by rfl) L.eT.g L.eT.k L.bT .nil pass0 (pa_cons (pe_lst (pa_cons pe_str pa_nil)) pa_nil))
          (pa_cons (pe_call L.GT hr (by rfl) L.eT.g L.eT.k L.bT .nil pass0 (pa_cons (pe_lst (pa_cons pe_str (pa_cons pe_str pa_nil))) pa_nil)) pa_nil))))
        (pe_op op_rep (pe_lst (pa_cons pe_str pa_nil)) pe_int) (nomark _))))), ?_⟩
    refine ⟨fun σ H' => ∃ b1 b2 b3 b4 b5 b6 b7 : Option V, σ = [some (.ref a), b1, b2, b3, b4, b5, b6, b7], ?_, ?_⟩
    · refine ⟨_, rfl, a, _, rfl, .inl hS, _, _, rfl, _, _, rfl, ?_⟩
      refine ⟨_, rfl, ?_, ?_, for_range (n := _) (fun i σ H' => (∃ b1 b2 b3 b4 b5 b6 b7 : Option V, σ = [some (.ref a), b1, b2, b3, b4, b5, b6, b7]) ∧ SqL K H' a (ns.map V.int)) ⟨⟨_, _, _, _, _, _, _, rfl⟩, hS⟩ ?_ ?_⟩
      · repeat' split
        all_goals omega
      · repeat' split
        all_goals omega
      · rintro i σ H1 hi ⟨⟨b1, b2, b3, b4, b5, b6, b7, rfl⟩, hS1⟩
        refine ⟨_, rfl, _, rfl, a, ns, _, rfl, hS1, by show (0 : Int) ≤ 0 + (i : Nat); omega, fun H2 p s2 hp2 dc2 => ?_⟩
        have hp1 : H1 p = none := hp2
        refine ⟨2, rfl, by decide, by decide, for_range (n := 2) (fun i σ H' => (∃ b1 b3 b4 b5 b6 b7 : Option V, σ = [some (.ref a), b1, some (.ref p), b3, b4, b5, b6, b7]) ∧ Kd p H1 H' ∧ DiceAt H' p) ⟨⟨_, _, _, _, _, _, rfl⟩, Kd.of s2, dc2⟩ ?_ ?_⟩
        · rintro j σ H3 hj ⟨⟨c1, c3, c4, c5, c6, c7, rfl⟩, k3, dc3⟩
          refine ⟨_, rfl, p, 5, rfl, dc3, by decide, by decide, fun q H4 d gq kd4 dc4 hd4 pl4 => ?_⟩
          have g := gq.wf
          obtain ⟨len2, len8⟩ := lines_len gq
          have nl2 : ((linesQ q).map V.str).length = (linesQ q).length := List.length_map ..
          refine ⟨_, rfl, d, q, rfl, pl4, g, fun l H5 s5 hl5 el5 => ?_⟩
          have k5 := k3.tr (kd4.tr (Kd.of s5))
          have dc5 := dc4.sm s5
          have nlp : l ≠ p := dc4.ne hl5
          have pl5 := pl4.same s5
          clear k3 kd4 dc4 pl4 hd4 dc3
          /- told, made -/
          refine ⟨_, rfl, _, rfl, p, l, _, rfl, dc5, nlp, el5, by omega, fun ys m H6 pm hm6 em6 kd6 dc6 => ?_⟩
          have yl : ys.length ≤ 8 := by rw [pm.length_eq]; omega
          refine ⟨m, ys, rfl, SqL.of em6, by omega, fun x hx => (lines_lnp g pm p H6 x hx).sh (by decide), (lines_pool g pm).ok (by decide), fun H7 v r s7 hr7 rv7 => ?_⟩
          obtain rfl := ResR.eq hr7 (lines_res g pm)
          obtain ⟨d7, rfl, pl7⟩ := rv7
          have k7 := kd6.tr (Kd.of s7)
          have pl7' := (pl5.kd dc5 kd6).same s7
          have el7 := s7 _ _ (kd6 _ _ nlp el5)
          refine ⟨_, rfl, d7, d, q, rfl, rfl, pl7, pl7', g, ?_⟩
          refine ⟨_, rfl, if_neg_of rfl ?_⟩
          /- the lines of the question made -/
          refine ⟨_, rfl, _, rfl, d, q, rfl, pl7', g, fun p8 H8 s8 qo8 => ?_⟩
          obtain ⟨tc, ta, to, td, ts, nsq, U⟩ := id qo8
          obtain ⟨dx, ep⟩ := U.ob
          refine ⟨p8, dx, _, rfl, ep, p8, q, rfl, qo8, g, fun t H9 s9 ht et => ?_⟩
          refine ⟨t, _, rfl, .inr (SqT.of et), fun l2 hl2 => ?_⟩
          have s10 := K0.Same.new (.lst ((linesQ q).map V.str)) hl2
          have s810 := K0.Same.tr s8 (K0.Same.tr s9 s10)
          have shp : SeqAt.shaped (.list ((linesQ q).map PyData.str)) = true := dStrs_shapedL fun z hz => g.lines_ok z hz
          have eqv : PyData.eqv (.list ((linesQ q).map PyData.str)) (.list ((linesQ q).map PyData.str)) = true := (eqvAll_strs (linesQ q) (linesQ q)).trans (decide_eq_true rfl)
          refine ⟨.list ((linesQ q).map PyData.str), .list ((linesQ q).map PyData.str), .lst (SqL.of (s810 _ _ el7)) (dpAll_strs _), .lst (SqL.of upd_same) (dpAll_strs _), shp, shp, _, rfl, ?_⟩
          rw [eqv]
          refine if_neg_of rfl ?_
          have kA := k7.tr (Kd.of s810)
          have dcA := (dc6.sm s7).sm s810
          have plA := pl7'.same s810
          have elA := s810 _ _ el7
          clear s810 s10 s9 s8 el7 pl7' k7 pl7
          generalize upd H9 l2 (.lst ((linesQ q).map V.str)) = HA at kA dcA plA elA ⊢
          /- all but the last -/
          refine ⟨_, rfl, 1, rfl, -1, rfl, l, _, rfl, SqL.of elA, fun lb hlb => ?_⟩
          have sb := K0.Same.new (.lst (cutV ((linesQ q).map V.str) none (some (-1)))) hlb
          have elb : upd HA lb (.lst (cutV ((linesQ q).map V.str) none (some (-1)))) lb = some (.lst ((q.cls.map lineC).map V.str)) := by rw [← lines_cut q]; exact upd_same
          have clen : ((q.cls.map lineC).map V.str).length ≤ 9 := by rw [List.length_map, List.length_map]; exact Nat.le_trans gq.cls.few (by decide)
          have sub : ∀ x ∈ (q.cls.map lineC).map V.str, x ∈ (linesQ q).map V.str := fun x hx => by
            unfold linesQ
            rw [List.map_append]
            exact List.mem_append_left _ hx
          have cpool : PoolOk (((q.cls.map lineC).map V.str).map tl) := by
            obtain ⟨pool, z1, z2⟩ := (lines_pool g (List.Perm.refl _)).ex
            refine ⟨pool, by omega, fun c hc kk hk => ?_⟩
            obtain ⟨x, hx, e⟩ := List.mem_map.mp hc
            exact z2 x (sub x hx) c e kk hk
          refine ⟨lb, _, rfl, SqL.of elb, clen, fun x hx => (lines_lnp g (List.Perm.refl _) p _ x (sub x hx)).sh (by decide), cpool, fun HB v r sB hrB rvB => ?_⟩
          obtain rfl := ResR.eq hrB (by rw [cut_tl g]; exact res_cut g)
          obtain ⟨dB, rfl, plB⟩ := rvB
          have sAB := K0.Same.tr sb sB
          clear sb sB elb clen sub cpool hrB
          intro dd hdd
          have s2' := K0.Same.new (.dK []) hdd
          obtain ⟨lc, la, ts, g1, g2, g3, g4⟩ := (plA.same sAB).same s2'
          refine ⟨_, rfl, d, V.ref lc, rfl, DGet.k (k := Sum.inr "clauses") g1, by show 0 ≤ sizeLine; decide, fun lq hlq => ?_⟩
          have s3' := K0.Same.new (.lst []) hlq
          have edd := s3' _ _ (upd_same (H := HB) (a := dd) (o := .dK []))
          refine ⟨edd, [(Sum.inr "clauses", .ref lc), (Sum.inr "asked", .ref lq)], rfl, by show 2 ≤ 15; decide, ?_⟩
          have em : mergeK [] [((Sum.inr "clauses" : Key), V.ref lc), (Sum.inr "asked", .ref lq)] = [((Sum.inr "clauses" : Key), V.ref lc), (Sum.inr "asked", .ref lq)] := rfl
          rw [em]
          have ndl : lc ≠ dd := fun z => by rw [z, upd_same] at g2; cases g2
          have nqd : lq ≠ dd := fun z => by rw [z, upd_same] at hlq; cases hlq
          have sAF : Same HA (upd (upd (upd HB dd (.dK [])) lq (.lst [])) dd (.dK [((Sum.inr "clauses" : Key), V.ref lc), (Sum.inr "asked", .ref lq)])) := fun b o e => by
            have e1 := sAB _ _ e
            rw [upd_ne (ne_of_none e1 hdd)]
            exact s3' _ _ (s2' _ _ e1)
          have sBF : Same HB (upd (upd (upd HB dd (.dK [])) lq (.lst [])) dd (.dK [((Sum.inr "clauses" : Key), V.ref lc), (Sum.inr "asked", .ref lq)])) := fun b o e1 => by
            rw [upd_ne (ne_of_none e1 hdd)]
            exact s3' _ _ (s2' _ _ e1)
          have plD : PlA (upd (upd (upd HB dd (.dK [])) lq (.lst [])) dd (.dK [((Sum.inr "clauses" : Key), V.ref lc), (Sum.inr "asked", .ref lq)])) dd ⟨q.cls, []⟩ :=
            ⟨lc, lq, ts, upd_same, by rw [upd_ne ndl]; exact s3' _ _ g2, (g3.same s3').off fun ys z => (by rw [edd] at z; cases z), by rw [upd_ne nqd]; exact upd_same⟩
          have gB : WfQ ⟨q.cls, []⟩ := ⟨g.c, List.nodup_nil, fun kk hk => by cases hk⟩
          refine ⟨dB, dd, _, rfl, rfl, plB.same sBF, plD, gB, _, rfl, if_neg_of rfl ?_⟩
          have kF := kA.tr (Kd.of sAF)
          have dcF := dcA.sm sAF
          have elF := sAF _ _ elA
          clear plD plB sBF edd s3' s2' g1 g2 g3 g4 em sAB sAF kA dcA elA plA
          generalize upd (upd (upd HB dd (.dK [])) lq (.lst [])) dd (.dK [((Sum.inr "clauses" : Key), V.ref lc), (Sum.inr "asked", .ref lq)]) = HF at kF dcF elF ⊢
          have kF2 := k5.tr kF
          /- four changes -/
          refine ⟨4, rfl, by decide, by decide, for_range (n := 4) (fun i σ H' => (∃ b1 b3 b4 b6 b7 : Option V, σ = [some (.ref a), b1, some (.ref p), b3, b4, some (.ref l), b6, b7]) ∧ Kd p H1 H' ∧ DiceAt H' p ∧ H' l = some (.lst ((linesQ q).map V.str))) ⟨⟨_, _, _, _, _, rfl⟩, kF2, dcF, elF⟩ ?_ ?_⟩
          · rintro n σ J hn ⟨⟨b1, b3, b4, b6, b7, rfl⟩, kJ, dcJ, elJ⟩
            refine ⟨_, rfl, _, rfl, _, rfl, p, l, _, rfl, dcJ, nlp, elJ, by omega, fun zs m J1 pz hm1 em1 kd1 dc1 => ?_⟩
            have zl : zs.length = (linesQ q).length := by rw [pz.length_eq, nl2]
            refine ⟨p, m, zs, 100, 0, rfl, dc1, dcJ.ne hm1, em1, by omega, by omega, by decide, by decide, lines_lnp g pz p J1, lines_pool g pz, fun ws lw J2 kd2 dc2' nlw elw lenw lnw pow => ?_⟩
            have kJ2 := kJ.tr (kd1.tr kd2)
            have elJ2 := kd2 _ _ nlp (kd1 _ _ nlp elJ)
            refine ⟨fun σ H' => (∃ b1 b3 b4 b6 : Option V, ∃ (lz : Addr) (us : List V), σ = [some (.ref a), b1, some (.ref p), b3, b4, some (.ref l), b6, some (.ref lz)] ∧ H' lz = some (.lst us) ∧ us.length ≤ 9 ∧ (∀ x ∈ us, LnP p 120 H' x) ∧ PoolN 2 us) ∧ Kd p H1 H' ∧ DiceAt H' p ∧ H' l = some (.lst ((linesQ q).map V.str)), ?_, ?_⟩
            · have stay : ∀ (x1 x3 x4 x6 : Option V) J', Kd p J2 J' → DiceAt J' p → ((∃ b1 b3 b4 b6 : Option V, ∃ (lz : Addr) (us : List V), [some (.ref a), x1, some (.ref p), x3, x4, some (.ref l), x6, some (.ref lw)] = [some (.ref a), b1, some (.ref p), b3, b4, some (.ref l), b6, some (.ref lz)] ∧ J' lz = some (.lst us) ∧ us.length ≤ 9 ∧ (∀ x ∈ us, LnP p 120 J' x) ∧ PoolN 2 us) ∧ Kd p H1 J' ∧ DiceAt J' p ∧ J' l = some (.lst ((linesQ q).map V.str))) := fun x1 x3 x4 x6 J' kd dc =>
                ⟨⟨_, _, _, _, lw, ws, rfl, kd _ _ nlw elw, by omega, fun x hx => (lnw x hx).kd kd (by decide), pow.le (by decide)⟩, kJ2.tr kd, dc, kd _ _ nlp elJ2⟩
              refine ⟨_, rfl, lw, ws, rfl, .inl (SqL.of elw), _, _, rfl, rfl, _, rfl, if_both (fun c => ?_) (fun c => ?_)⟩
              · have w0 : 0 < ws.length := by have := of_decide_eq_true c; omega
                refine ⟨_, rfl, lw, ws, rfl, .inl (SqL.of elw), _, _, rfl, rfl, _, rfl, if_both (fun c2 => ?_) (fun c2 => ?_)⟩
                · have w9 : ws.length < 9 := by have := of_decide_eq_true c2; omega
                  refine ⟨_, rfl, p, 2, rfl, dc2', by decide, by decide, fun r J3 r0 r1 kd3 dc3' => ?_⟩
                  refine ⟨rfl, _, rfl, if_both (fun c3 => ?_) (fun c3 => ?_)⟩
                  · refine ⟨_, rfl, _, rfl, p, lw, ws, 110, 1, rfl, dc3', nlw, kd3 _ _ nlw elw, w0, by omega, by decide, by decide, fun x hx => (lnw x hx).kd kd3 (by decide), pow, fun vs lv J4 kd4 dc4 nlv elv lenv lnv pov => ?_⟩
                    exact ⟨⟨_, _, _, _, lv, vs, rfl, elv, by omega, lnv, pov⟩, kJ2.tr (kd3.tr kd4), dc4, kd4 _ _ nlp (kd3 _ _ nlp elJ2)⟩
                  · exact stay _ _ _ _ J3 kd3 dc3'
                · exact stay _ _ _ _ J2 Kd.rfl' dc2'
              · exact stay _ _ _ _ J2 Kd.rfl' dc2'
            · rintro σ J3 ⟨⟨b1, b3, b4, b6, lz, us, rfl, elz, lenz, lnz, poz⟩, kJ3, dcJ3, elJ3⟩
              refine ⟨_, rfl, lz, us, rfl, .inl (SqL.of elz), _, _, rfl, rfl, _, rfl, if_both (fun c => ?_) (fun c => ?_)⟩
              · have hx : ∀ x ∈ us, Da J3 x ∧ ShT x := fun x m => (lnz x m).sh (by decide)
                have po := poz.ok (by decide)
                have len9 : (us.map tl).length ≤ 9 := by rw [List.length_map]; exact lenz
                refine ⟨_, rfl, lz, us, rfl, SqL.of elz, lenz, hx, po, fun J4 v r s4 hr4 rv4 => ?_⟩
                refine ⟨v, r, rfl, rv4, res_ix hr4 len9, res_wf hr4, ?_⟩
                refine ⟨_, rfl, lz, us, rfl, SqL.of (s4 _ _ elz), lenz, fun x m => ⟨(hx x m).1.same s4, (hx x m).2⟩, po, fun J5 v2 r2 s5 hr5' rv5 => ?_⟩
                refine ⟨v2, r2, rfl, rv5, res_ix hr5' len9, res_wf hr5', ?_⟩
                obtain rfl := ResR.eq hr4 hr5'
                refine ⟨rfl, _, rfl, if_neg_of (by simp) ?_⟩
                have s45 := K0.Same.tr s4 s5
                exact ⟨⟨_, _, _, _, _, rfl⟩, kJ3.tr (Kd.of s45), dcJ3.sm s45, s45 _ _ elJ3⟩
              · exact ⟨⟨_, _, _, _, _, rfl⟩, kJ3, dcJ3, elJ3⟩
          · rintro σ J ⟨⟨b1, b3, b4, b6, b7, rfl⟩, kJ, dcJ, elJ⟩
            exact ⟨⟨_, _, _, _, _, _, rfl⟩, kJ, dcJ⟩
        · rintro σ H3 ⟨⟨c1, c3, c4, c5, c6, c7, rfl⟩, k3, dc3⟩
          exact ⟨⟨_, _, _, _, _, _, _, rfl⟩, sq_kd hS1 hp1 k3⟩
      · rintro σ H1 ⟨⟨b1, b2, b3, b4, b5, b6, b7, rfl⟩, _⟩
        exact ⟨_, _, _, _, _, _, _, rfl⟩
    rintro σ H1 ⟨b1, b2, b3, b4, b5, b6, b7, rfl⟩
    refine ⟨by show 0 ≤ sizeLine; decide, fun l0 hl0 => ?_⟩
    refine ⟨l0, [], rfl, SqL.of upd_same, by decide, fun x hx => (by cases hx), pool0, fun H2 v0 r0 s2 hr0 rv0 => ?_⟩
    obtain rfl := ResR.eq hr0 res0
    obtain rfl : v0 = .str "question" := rv0
    refine ⟨by show 1 ≤ sizeLine; decide, fun l1 hl1 => ?_⟩
    refine ⟨l1, _, rfl, SqL.of upd_same, by decide, fun x hx => ?_, pool1, fun H3 v1 r1 s3 hr1' rv1 => ?_⟩
    · rw [List.mem_singleton.mp hx]
      exact ⟨.str _, fun z e => by cases e; exact ⟨by decide +kernel, okS_lit (by decide +kernel)⟩⟩
    obtain rfl := ResR.eq hr1' res1
    obtain rfl : v1 = .str "question" := rv1
    refine ⟨by show 2 ≤ sizeLine; decide, fun l2 hl2 => ?_⟩
    refine ⟨l2, _, rfl, SqL.of upd_same, by decide, fun x hx => ?_, pool2, fun H4 v2 r2 s4 hr2' rv2 => ?_⟩
    · rcases List.mem_cons.mp hx with rfl | hx
      · exact ⟨.str _, fun z e => by cases e; exact ⟨by decide +kernel, okS_lit (by decide +kernel)⟩⟩
      · rw [List.mem_singleton.mp hx]
        exact ⟨.str _, fun z e => by cases e; exact ⟨by decide +kernel, okS_lit (by decide +kernel)⟩⟩
    obtain rfl := ResR.eq hr2' res2
    obtain rfl : v2 = .str "question" := rv2
    refine ⟨by show 3 ≤ sizeLine; decide, fun m hm => ?_⟩
    refine ⟨by show 1 ≤ sizeLine; decide, fun m2 hm2 => ?_⟩
    refine ⟨m2, 3, _, rfl, rfl, upd_same, by decide, by decide, by show 1 * 3 ≤ sizeLine; rw [sizeLine_eq]; decide, fun m3 hm3 => ?_⟩
    have w1 := K0.Same.new (.lst [V.str "question"]) hm2
    have w2 := K0.Same.new (.lst (List.replicate (3 : Int).toNat [V.str "question"]).flatten) hm3
    have w := w2 _ _ (w1 _ _ (upd_same (H := H4) (a := m) (o := .lst [V.str "question", V.str "question", V.str "question"])))
    refine ⟨que3, que3, .lst (SqL.of w) (.cons (.str _) (.cons (.str _) (.cons (.str _) .nil))), .lst (SqL.of upd_same) (.cons (.str _) (.cons (.str _) (.cons (.str _) .nil))), que3_sh, que3_sh, ?_⟩
    rw [que3_eq]
    exact k _
end
end K0

/-! ## E2 -/
set_option maxRecDepth 100000
set_option maxHeartbeats 2000000
namespace K0
open PySem PySem.Spec PyProof.Rows L2
/-! ### the end: the law called where nothing is being shown, with tables of code objects -/
/-- the script's list and the tables, all that is tracked at the start -/
def startH (K : PySem.W.Frag) (ts : List Addr) (a : Addr) (oS : Obj) (xs : List V) : Hp := fun b => if b ∈ ts then some (.tbl #[]) else if b = a ∧ (K.lookup a).isNone = true then some (.frz oS (.lst xs)) else none
section
variable {P : Program} {w : World} {K : PySem.W.Frag} {mg mb : Str → Option Value} {a fa : Addr} {ts : List Addr} {s : Shared} {us : List Value} {ns : List Int}
abbrev lstO (us : List Value) : Obj := { cls := .type "list", data := .seq us.toArray }
theorem startH_tab {oS : Obj} {xs : List V} {b : Addr} (h : b ∈ ts) : startH K ts a oS xs b = some (.tbl #[]) := if_pos h
theorem startH_cases {oS : Obj} {xs : List V} {b : Addr} {o : HO} (h : startH K ts a oS xs b = some o) : (b ∈ ts ∧ o = .tbl #[]) ∨ (b = a ∧ K.lookup a = none ∧ o = .frz oS (.lst xs)) := by
  unfold startH at h
  split at h
  · rename_i h1
    cases h
    exact .inl ⟨h1, rfl⟩
  · split at h
    · rename_i h2
      cases h
      exact .inr ⟨h2.1, Option.isNone_iff_eq_none.mp h2.2, rfl⟩
    · cases h
theorem startH_no {oS : Obj} {xs : List V} {b : Addr} (h1 : b ∉ ts) (h2 : b = a → K.lookup a ≠ none) : startH K ts a oS xs b = none := by
  cases e : startH K ts a oS xs b with
  | none => rfl
  | some o =>
    rcases startH_cases e with ⟨z, _⟩ | ⟨z, y, _⟩
    · exact absurd z h1
    · exact absurd y (h2 z)
/-- what holds of the world before the call -/
structure Fore (K : PySem.W.Frag) (mg mb : Str → Option Value) (ts : List Addr) (a : Addr) (us : List Value) (ns : List Int) (s : Shared) : Prop where
  k : K.In s.heap
  g : s.heap.Ns mainGlobals mg
  b : s.heap.Ns builtinsNs mb
  bb : ∀ x : Str, x ≠ "__name__" → mb x = bootBuiltins x
  lim : s.heap.NoLimit
  gens : s.gens = #[]
  tab : ∀ q ∈ ts, s.heap.get? q = some { cls := .none, data := .fields #[] }
  noK : ∀ q ∈ ts, K.lookup q = none
  bm : ∃ (bm : Addr) (ob : Obj), mg "__builtins__" = some (.ref bm) ∧ bm ≠ builtinsNs ∧ s.heap.get? bm = some ob ∧ ob.cls = .type "module" ∧ ob.dict = some builtinsNs ∧ ob.data = .plain
  scr : s.heap.get? a = some (lstO us)
  nums : IntsAre us ns
  len : ns.length ≤ sizeLine
theorem Fore.aT (F : Fore K mg mb ts a us ns s) : a ∉ ts := fun z => by
  have q := F.tab a z
  rw [F.scr] at q
  have z2 : (Value.type "list") = Value.none := congrArg Obj.cls (Option.some.inj q)
  cases z2
theorem Fore.off (F : Fore K mg mb ts a us ns s) {b : Addr} {o : Obj} (e : s.heap.get? b = some o) (h : o.cls ≠ .none) (h2 : o.cls ≠ .type "list") : startH K ts a (lstO us) (ns.map V.int) b = none :=
  startH_no (fun z => by
    rw [F.tab b z] at e
    cases e
    exact h rfl) fun z => by
    rw [z, F.scr] at e
    cases e
    exact absurd rfl h2
theorem Fore.offD (F : Fore K mg mb ts a us ns s) {b : Addr} {o : Obj} (e : s.heap.get? b = some o) (h : o.data ≠ .fields #[]) (h2 : ∀ vs n, o.data ≠ .seq vs n) : startH K ts a (lstO us) (ns.map V.int) b = none :=
  startH_no (fun z => by
    rw [F.tab b z] at e
    cases e
    exact h rfl) fun z => by
    rw [z, F.scr] at e
    cases e
    exact absurd rfl (h2 _ _)
/-- the part of the heap that no one tracks -/
abbrev foreB (K : PySem.W.Frag) (ts : List Addr) (a : Addr) (us : List Value) (ns : List Int) (s : Shared) : Heap := hidT s.heap (startH K ts a (lstO us) (ns.map V.int))
theorem Fore.nsB (F : Fore K mg mb ts a us ns s) {b : Addr} {m : Str → Option Value} (h : s.heap.Ns b m) : (foreB K ts a us ns s).Ns b m := by
  obtain ⟨o, es, ep, e, d, r⟩ := h
  refine ⟨o, es, ep, hidT_get e (F.offD e (fun z => ?_) fun vs n z => ?_), d, r⟩
  · rw [d] at z
    cases z
  · rw [d] at z
    cases z
theorem Fore.kB (F : Fore K mg mb ts a us ns s) : K.In (foreB K ts a us ns s) := fun b o e => hidT_get (F.k b o e) (startH_no (fun z => by
  rw [F.noK b z] at e
  cases e) fun z y => by
    rw [z, y] at e
    cases e)
theorem Fore.modB (F : Fore K mg mb ts a us ns s) : L2.Mod K mg (foreB K ts a us ns s) := ⟨F.kB, F.nsB F.g, ⟨mb, F.nsB F.b, F.bb⟩, by
  obtain ⟨mc, h1, h2⟩ := F.lim
  exact ⟨mc, F.nsB h1, h2⟩⟩
theorem Fore.tabB (F : Fore K mg mb ts a us ns s) {c q : Addr} (hq : q ∈ ts) (C : PySem.W.CodeHd s.heap c q) : LamX.TabB (foreB K ts a us ns s) mg c q := by
  have hT := F.tab q hq
  refine ⟨?_, ?_, fun z => ?_⟩
  · obtain ⟨o, vs, file, tf, flags, tg, inF, text, tt, e1, r1, r2, r3, rest⟩ := C
    refine ⟨o, vs, file, tf, flags, tg, inF, text, tt, hidT_get e1 (F.offD e1 (fun z => ?_) fun us n z => ?_), r1, r2, r3, rest⟩
    · rw [r2] at z
      cases z
      simp at r3
    · rw [r2] at z
      cases z
  · obtain ⟨bm, ob, b1, b2, b3, b4, b5, b6⟩ := F.bm
    have pl : ob.data ≠ .fields #[] := fun z => by
      rw [b6] at z
      cases z
    refine ⟨bm, ob, b1, b2, fun z => ?_, fun z => ?_, hidT_get b3 (F.offD b3 pl fun us n z => ?_), b4, b5, b6⟩
    · obtain ⟨o, es, ep, e, hd, _⟩ := F.g
      rw [z, e] at b3
      cases b3
      rw [hd] at b6
      cases b6
    · rw [z, hT] at b3
      cases b3
      cases b6
    · rw [b6] at z
      cases z
  · obtain ⟨o, es, ep, e, hd, _⟩ := F.g
    rw [z, hT] at e
    cases e
    cases hd
theorem Fore.hok (F : Fore K mg mb ts a us ns s) : HOk P w (startH K ts a (lstO us) (ns.map V.int)) s.heap := fun b o e => by
  rcases startH_cases e with ⟨z, rfl⟩ | ⟨z, _, rfl⟩
  · exact F.tab b z
  · rw [z]
    refine ⟨F.scr, by rw [List.length_map]; exact F.len, us, _, vals_ints F.nums, F.scr⟩
theorem Fore.seqS (F : Fore K mg mb ts a us ns s) : SqL K (startH K ts a (lstO us) (ns.map V.int)) a (ns.map V.int) := by
  cases hk : K.lookup a with
  | none =>
    refine .inl (.inr ⟨lstO us, ?_⟩)
    unfold startH
    rw [if_neg F.aT, if_pos ⟨rfl, by rw [hk]; rfl⟩]
  | some o =>
    have e := F.k a o hk
    rw [F.scr] at e
    cases e
    have lu := F.nums.length
    exact .inr ⟨_, us.toArray, _, hk, rfl, rfl, rfl, by rw [List.size_toArray, lu]; exact F.len, by simpa using vals_ints F.nums⟩
theorem law_callG {CX : CXT} {k : Nat} {fd : FuncData} {x : Str} {sp : Sp} {cs : List (Addr × Addr)} (F : Fore K mg mb ts a us ns s) (hc : ∀ p ∈ cs, p.2 ∈ ts ∧ PySem.W.CodeHd s.heap p.1 p.2) (hc2 : ∀ q ∈ ts, ∃ c, PySem.W.CodeHd s.heap c q) (hr : Room k callerA)
    (G : ∀ base : Heap, K.In base → base.Ns mainGlobals mg → (∀ p ∈ cs, LamX.TabB base mg p.1 p.2) → FnG P w K mg base CX k fa fd [x] sp) (hbind : ∀ (s : Shared) (u : Value), BindsTo s fd ⟨[u], []⟩ [(x, u)])
    (hsp : ∀ H : Hp, (∀ q ∈ ts, H q = some (.tbl #[])) → SqL K H a (ns.map V.int) → sp [.ref a] H (fun v _ => v = .bl true) fun _ _ _ => False) (hCX : ∀ H e s', CX [] H s (fun _ _ _ => False) e s' → False) :
    codeAny (model P w) callerA (.call (.ref fa) ⟨[.ref a], []⟩) (fun r s' => r = .ok (.ret (.bool true)) ∧ OldK s.heap s'.heap ∧ s'.os = s.os ∧ AllBare s'.gens) s := by
  have e0 : Env0 P w K mg (foreB K ts a us ns s) callerA [] s (startH K ts a (lstO us) (ns.map V.int)) := ⟨rfl, F.modB, fun b o e => of_hidT e, Nat.le_of_eq (hidT_size _ _), trivial, (fun b hb => nomatch hb), F.hok, .of_eq F.gens⟩
  have g := (G _ F.kB (F.nsB F.g) fun p hp => F.tabB (hc p hp).1 (hc p hp).2).run callerA [] s _ ⟨[.ref a], []⟩ [.ref a] [.ref a] _ _ hr rfl e0 (hbind s (.ref a)) (.cons rfl .nil) (hsp _ (fun q hq => startH_tab hq) F.seqS)
  refine codeAny_mono g fun r s' h => ?_
  rcases r with e | (_ | _ | _ | u)
  · exact (hCX _ e s' h).elim
  · exact False.elim h
  · exact False.elim h
  · exact False.elim h
  · obtain ⟨v, H', os, bare, un, ok2, rv, q⟩ := h
    have q' : v = .bl true := q
    subst q'
    obtain rfl : u = Value.bool true := rv
    have grown : ∀ z ∈ ts, ∃ more : Array Value, s'.heap.get? z = some { cls := .none, data := .fields more } := fun z hz => by
      obtain ⟨more, y⟩ := un.tbls z #[] (startH_tab hz)
      exact ⟨_, ok2 z _ y⟩
    have stay : ∀ b o, b ∉ ts → s.heap.get? b = some o → s'.heap.get? b = some o := fun b o nb e => by
      cases y : startH K ts a (lstO us) (ns.map V.int) b with
      | none => exact un.keep b o e y (fun z => nomatch z) (fun z => nomatch z)
      | some u =>
        rcases startH_cases y with ⟨z, _⟩ | ⟨z, _, rfl⟩
        · exact absurd z nb
        · obtain ⟨e2, _⟩ := ok2 b _ (un.frzs b _ _ y)
          rw [z, F.scr] at e
          cases e
          rw [z] at e2 ⊢
          exact e2
    refine ⟨rfl, ⟨fun b o e => ?_, fun b o e => ?_⟩, os, bare⟩
    · by_cases hb : b ∈ ts
      · obtain ⟨more, y⟩ := grown b hb
        obtain ⟨c, C⟩ := hc2 b hb
        rw [F.tab b hb] at e
        cases e
        exact .inr (.inl ⟨(C.tab (F.tab b hb)).isCodeTable, rfl, #[], more, rfl, by rw [Array.empty_append]; exact y⟩)
      · exact .inl (stay b o hb e)
    · by_cases hb : b ∈ ts
      · obtain ⟨more, y⟩ := grown b hb
        exact ⟨_, y⟩
      · exact ⟨o, stay b o hb e⟩
end
end K0

/-! ## U2 -/
set_option maxRecDepth 100000
set_option maxHeartbeats 4000000
namespace K0
open PySem PySem.Spec PyProof.Rows L2 ClX PySem.KeepX
theorem both {a b : Bool} (h : (a && b) = true) : a = true ∧ b = true := Bool.and_eq_true_iff.mp h
theorem prB_ok {K : PySem.W.Frag} {f : Str} (h : prB K f = true) : PropOf K (caQ K) f (He.ma K (caQ K) f) (gG K f) := by
  obtain ⟨h1, h⟩ := both h
  obtain ⟨h2, h⟩ := both h
  obtain ⟨h3, h4⟩ := both h
  refine ⟨of_decide_eq_true h1, of_decide_eq_true h2, of_decide_eq_true h3, ?_⟩
  unfold gG He5.wf
  split at h4
  · rename_i g r e
    exact ⟨r, by rw [e]⟩
  · cases h4
theorem exC_ok {K : PySem.W.Frag} (h : exC K = true) : CRead K (caQ K) (.type "type") ∧ CMet K (caQ K) (.type "type") "from_lines" (He.ma K (caQ K) "from_lines") (gC K "from_lines") := by
  obtain ⟨h1, h⟩ := both h
  obtain ⟨h2, h⟩ := both h
  obtain ⟨h3, h4⟩ := both h
  exact ⟨⟨h3, of_decide_eq_true h4⟩, He5.cmet_of h1 h2⟩
/-- ParseError -/
structure PeF (K : PySem.W.Frag) : Prop where
  q : PySem.W.excInitIn K (caP K) Par.bmB "ValueError.__new__" = true
  ov : PySem.W.excOver K (caP K) Par.bmB = true
  sa : PySem.W.findIn K (.ref (caP K)) "__setattr__" = some (some (.builtin "object.__setattr__"))
  no : PySem.W.findIn K (.ref (caP K)) "number" = some none
  iC : PySem.W.findIn K (.ref (caP K)) "__init__" = some (some (.ref (He.ma K (caP K) "__init__")))
  tI : PySem.W.typeIn K (.ref (He.ma K (caP K) "__init__")) = some (.type "function")
  kp : PySem.W.keepIn K (.ref (caP K)) = true
  ty : PySem.W.typeIn K (.ref (caP K)) = some (.type "type")
  xf : XfC K (caP K)
  kw : ∀ oc od fd osl, K.lookup (He.ma K (caP K) "__init__") = some ⟨oc, od, .func fd, osl⟩ → fd.kwdefaults = .none
theorem exP_ok {K : PySem.W.Frag} (h : exP K = true) : PeF K := by
  obtain ⟨h1, h⟩ := both h
  obtain ⟨h2, h⟩ := both h
  obtain ⟨h3, h⟩ := both h
  obtain ⟨h4, h⟩ := both h
  obtain ⟨h5, h⟩ := both h
  obtain ⟨h6, h⟩ := both h
  obtain ⟨h7, h⟩ := both h
  obtain ⟨h8, h⟩ := both h
  obtain ⟨h9, h10⟩ := both h
  refine ⟨h1, h2, of_decide_eq_true h3, of_decide_eq_true h4, of_decide_eq_true h5, of_decide_eq_true h6, h7, of_decide_eq_true h8, xfB_ok h9, fun oc od fd osl e => ?_⟩
  rw [e] at h10
  exact of_decide_eq_true h10
theorem txtP {K : PySem.W.Frag} {mg : Str → Option Value} {fd : FuncData} (g : mg "ParseError" = some (.ref (caP K))) (Q : PeF K)
    (F : FunD K "__init__" "ParseError.__init__" (defArgs (inClass (top 5) 0)) (defBody (inClass (top 5) 0)) (defScope (inClass (top 5) 0)) [] [] (He.ma K (caP K) "__init__") fd) : Par.Txt K mg (caP K) (He.ma K (caP K) "__init__") := by
  obtain ⟨oc, od, dV, kV, doc, pm, an, cdv, ct, osl, e, l, c, hd, _⟩ := F.ex
  have e0 : dV = .none := by
    rcases hd with ⟨_, z⟩ | ⟨z, _⟩
    · exact z
    · exact absurd rfl z
  have e1 := Q.kw _ _ _ _ l
  subst e
  have e2 : kV = .none := e1
  subst e0 e2
  exact ⟨⟨g, Q.kp, Q.q, Q.ov, Q.xf.hdC, Q.sa, Q.no, Q.xf.exC, Q.ty⟩, Q.iC, Q.tI, oc, od, doc, pm, an, cdv, ct, osl, _, _, _, _, _, _, l, c⟩
theorem facts {P : Program} {w w0 : World} {K : PySem.W.Frag} {h : Heap} {mg : Str → Option Value} (X : K.In h) (G : h.Ns mainGlobals mg) (c : He.SaysT fa0 fn0 [] w0 K) (more : ex0 K = true) (cg : He5.SaysA [] fg0 K) :
    mg "law" = some (.ref (He.ga K "law")) ∧ ∃ fd : FuncData, (∀ (s : Shared) (u : Value), BindsTo s fd ⟨[u], []⟩ [("_law_script", u)]) ∧
      ∀ base : Heap, K.In base → base.Ns mainGlobals mg → FnG P w K mg base CX0 11 (He.ga K "law") fd ["_law_script"] (spLaw K) := by
  have D := c.d
  have gl : ∀ {x : Str} (i : Nat), fa0[i]? = some (.glo x) → mg x = some (.ref (He.ga K x)) := fun i e => He.glo_ok X G (D.fact i e)
  have fr : ∀ {x : Str} (i : Nat), fa0[i]? = some (.free x) → mg x = none := fun i e => He.free_ok X G (D.fact i e)
  have nt : ∀ {x : Str} {k : Int} (i : Nat), fa0[i]? = some (.int x k) → ∃ t, mg x = some (.int k t) := fun i e => He.int_ok X G (D.fact i e)
  have na : ∀ {m : Str} (i : Nat), fa0[i]? = some (.noat "Question" m) → NoAttr K (caQ K) m := fun i e => He.noat_ok (D.fact i e)
  obtain ⟨pB, m⟩ := both more
  obtain ⟨m1, m2⟩ := both m
  obtain ⟨rd, cm⟩ := exC_ok m1
  have pe := exP_ok m2
  have pr : ∀ {f : Str} (i : Nat), prN[i]? = some f → PropOf K (caQ K) f (He.ma K (caQ K) f) (gG K f) := fun i e => prB_ok (List.all_eq_true.mp pB _ (List.mem_of_getElem? e))
  obtain ⟨fd10, F10⟩ := D.def_ 0 (d := d10) rfl
  have U10 : Fun K "is_integer" "is_integer" (top 10) (He.ga K "is_integer") fd10 := He5.fun_of F10
  have B10 : Binds K fd10 ["value"] [] := L2.Fun.binds U10 fun _ _ _ _ _ _ us hl => match us, hl with | [_], _ => rfl
  obtain ⟨fd11, F11⟩ := D.def_ 1 (d := d11) rfl
  have U11 : Fun K "is_pair" "is_pair" (top 11) (He.ga K "is_pair") fd11 := He5.fun_of F11
  have B11 : Binds K fd11 ["value"] [] := L2.Fun.binds U11 fun _ _ _ _ _ _ us hl => match us, hl with | [_], _ => rfl
  obtain ⟨fd12, F12⟩ := D.def_ 2 (d := d12) rfl
  have U12 : Fun K "is_width" "is_width" (top 12) (He.ga K "is_width") fd12 := He5.fun_of F12
  have B12 : Binds K fd12 ["value"] [] := L2.Fun.binds U12 fun _ _ _ _ _ _ us hl => match us, hl with | [_], _ => rfl
  obtain ⟨fd13, F13⟩ := D.def_ 3 (d := d13) rfl
  have U13 : Fun K "is_name" "is_name" (top 13) (He.ga K "is_name") fd13 := He5.fun_of F13
  have B13 : Binds K fd13 ["value"] [] := L2.Fun.binds U13 fun _ _ _ _ _ _ us hl => match us, hl with | [_], _ => rfl
  obtain ⟨fd14, F14⟩ := D.def_ 4 (d := d14) rfl
  have U14 : Fun K "are_names" "are_names" (top 14) (He.ga K "are_names") fd14 := He5.fun_of F14
  have B14 : Binds K fd14 ["value"] [] := L2.Fun.binds U14 fun _ _ _ _ _ _ us hl => match us, hl with | [_], _ => rfl
  obtain ⟨fd15, F15⟩ := D.def_ 5 (d := d15) rfl
  have U15 : Fun K "are_different" "are_different" (top 15) (He.ga K "are_different") fd15 := He5.fun_of F15
  have B15 : Binds K fd15 ["values"] [] := L2.Fun.binds U15 fun _ _ _ _ _ _ us hl => match us, hl with | [_], _ => rfl
  obtain ⟨fd16, F16⟩ := D.def_ 6 (d := d16) rfl
  have U16 : Fun K "is_ascending" "is_ascending" (top 16) (He.ga K "is_ascending") fd16 := He5.fun_of F16
  have B16 : Binds K fd16 ["values"] [] := L2.Fun.binds U16 fun _ _ _ _ _ _ us hl => match us, hl with | [_], _ => rfl
  obtain ⟨fd17, F17⟩ := D.def_ 7 (d := d17) rfl
  have U17 : Fun K "words_of" "words_of" (top 17) (He.ga K "words_of") fd17 := He5.fun_of F17
  have B17 : Binds K fd17 ["line"] [] := L2.Fun.binds U17 fun _ _ _ _ _ _ us hl => match us, hl with | [_], _ => rfl
  obtain ⟨fd21, F21⟩ := D.def_ 8 (d := d21) rfl
  have U21 : Fun K "is_clause" "is_clause" (top 21) (He.ga K "is_clause") fd21 := He5.fun_of F21
  have B21 : Binds K fd21 ["value"] [] := L2.Fun.binds U21 fun _ _ _ _ _ _ us hl => match us, hl with | [_], _ => rfl
  obtain ⟨fd22, F22⟩ := D.def_ 9 (d := d22) rfl
  have U22 : Fun K "_columns_of" "_columns_of" (top 22) (He.ga K "_columns_of") fd22 := He5.fun_of F22
  have B22 : Binds K fd22 ["clauses"] [] := L2.Fun.binds U22 fun _ _ _ _ _ _ us hl => match us, hl with | [_], _ => rfl
  obtain ⟨fd23, F23⟩ := D.def_ 10 (d := d23) rfl
  have U23 : Fun K "_tables_of" "_tables_of" (top 23) (He.ga K "_tables_of") fd23 := He5.fun_of F23
  have B23 : Binds K fd23 ["clauses"] [] := L2.Fun.binds U23 fun _ _ _ _ _ _ us hl => match us, hl with | [_], _ => rfl
  obtain ⟨fd24, F24⟩ := D.def_ 11 (d := d24) rfl
  have U24 : Fun K "_are_clauses" "_are_clauses" (top 24) (He.ga K "_are_clauses") fd24 := He5.fun_of F24
  have B24 : Binds K fd24 ["value"] [] := L2.Fun.binds U24 fun _ _ _ _ _ _ us hl => match us, hl with | [_], _ => rfl
  obtain ⟨fd25, F25⟩ := D.def_ 12 (d := d25) rfl
  have U25 : Fun K "_are_asked" "_are_asked" (top 25) (He.ga K "_are_asked") fd25 := He5.fun_of F25
  have B25 : Binds K fd25 ["clauses", "value"] [] := L2.Fun.binds U25 fun _ _ _ _ _ _ us hl => match us, hl with | [_, _], _ => rfl
  obtain ⟨fd27, F27⟩ := D.def_ 13 (d := d27) rfl
  have U27 : Fun K "_clause_or_asked" "_clause_or_asked" (top 27) (He.ga K "_clause_or_asked") fd27 := He5.fun_of F27
  have B27 : Binds K fd27 ["line"] [] := L2.Fun.binds U27 fun _ _ _ _ _ _ us hl => match us, hl with | [_], _ => rfl
  obtain ⟨fd30, F30⟩ := D.def_ 14 (d := d30) rfl
  have U30 : Fun K "_law_dice" "_law_dice" (top 30) (He.ga K "_law_dice") fd30 := He5.fun_of F30
  have B30 : Binds K fd30 ["_law_script", "_law_spot"] [] := L2.Fun.binds U30 fun _ _ _ _ _ _ us hl => match us, hl with | [_, _], _ => rfl
  obtain ⟨fd31, F31⟩ := D.def_ 15 (d := d31) rfl
  have U31 : Fun K "_law_roll" "_law_roll" (top 31) (He.ga K "_law_roll") fd31 := He5.fun_of F31
  have B31 : Binds K fd31 ["_law_dice_here", "_law_total"] [] := L2.Fun.binds U31 fun _ _ _ _ _ _ us hl => match us, hl with | [_, _], _ => rfl
  obtain ⟨fd32, F32⟩ := D.def_ 16 (d := d32) rfl
  have U32 : Fun K "_law_pick" "_law_pick" (top 32) (He.ga K "_law_pick") fd32 := He5.fun_of F32
  have B32 : Binds K fd32 ["_law_dice_here", "_law_items"] [] := L2.Fun.binds U32 fun _ _ _ _ _ _ us hl => match us, hl with | [_, _], _ => rfl
  obtain ⟨fd33, F33⟩ := D.def_ 17 (d := d33) rfl
  have U33 : Fun K "_law_mixed" "_law_mixed" (top 33) (He.ga K "_law_mixed") fd33 := He5.fun_of F33
  have B33 : Binds K fd33 ["_law_dice_here", "_law_items"] [] := L2.Fun.binds U33 fun _ _ _ _ _ _ us hl => match us, hl with | [_, _], _ => rfl
  obtain ⟨fd34, F34⟩ := D.def_ 18 (d := d34) rfl
  have U34 : Fun K "_law_question" "_law_question" (top 34) (He.ga K "_law_question") fd34 := He5.fun_of F34
  have B34 : Binds K fd34 ["_law_clauses", "_law_asked"] [] := L2.Fun.binds U34 fun _ _ _ _ _ _ us hl => match us, hl with | [_, _], _ => rfl
  obtain ⟨fd35, F35⟩ := D.def_ 19 (d := d35) rfl
  have U35 : Fun K "_law_made" "_law_made" (top 35) (He.ga K "_law_made") fd35 := He5.fun_of F35
  have B35 : Binds K fd35 ["_law_plain"] [] := L2.Fun.binds U35 fun _ _ _ _ _ _ us hl => match us, hl with | [_], _ => rfl
  obtain ⟨fd36, F36⟩ := D.def_ 20 (d := d36) rfl
  have U36 : Fun K "_law_columns" "_law_columns" (top 36) (He.ga K "_law_columns") fd36 := He5.fun_of F36
  have B36 : Binds K fd36 ["_law_plain"] [] := L2.Fun.binds U36 fun _ _ _ _ _ _ us hl => match us, hl with | [_], _ => rfl
  obtain ⟨fd37, F37⟩ := D.def_ 21 (d := d37) rfl
  have U37 : Fun K "_law_widths" "_law_widths" (top 37) (He.ga K "_law_widths") fd37 := He5.fun_of F37
  have B37 : Binds K fd37 ["_law_plain"] [] := L2.Fun.binds U37 fun _ _ _ _ _ _ us hl => match us, hl with | [_], _ => rfl
  obtain ⟨fd38, F38⟩ := D.def_ 22 (d := d38) rfl
  have U38 : Fun K "_law_names" "_law_names" (top 38) (He.ga K "_law_names") fd38 := He5.fun_of F38
  have B38 : Binds K fd38 [] [] := L2.Fun.binds U38 fun _ _ _ _ _ _ us hl => match us, hl with | [], _ => rfl
  obtain ⟨fd39, F39⟩ := D.def_ 23 (d := d39) rfl
  have U39 : Fun K "_law_asking" "_law_asking" (top 39) (He.ga K "_law_asking") fd39 := He5.fun_of F39
  have B39 : Binds K fd39 ["_law_dice_here", "_law_clauses", "_law_share"] [] := L2.Fun.binds U39 fun _ _ _ _ _ _ us hl => match us, hl with | [_, _, _], _ => rfl
  obtain ⟨fd40, F40⟩ := D.def_ 24 (d := d40) rfl
  have U40 : Fun K "_law_drawn" "_law_drawn" (top 40) (He.ga K "_law_drawn") fd40 := He5.fun_of F40
  have B40 : Binds K fd40 ["_law_dice_here", "_law_most", "_law_width", "_law_is_plain"] [] := L2.Fun.binds U40 fun _ _ _ _ _ _ us hl => match us, hl with | [_, _, _, _], _ => rfl
  obtain ⟨fd41, F41⟩ := D.def_ 25 (d := d41) rfl
  have U41 : Fun K "_law_tree" "_law_tree" (top 41) (He.ga K "_law_tree") fd41 := He5.fun_of F41
  have B41 : Binds K fd41 ["_law_dice_here", "_law_most"] [] := L2.Fun.binds U41 fun _ _ _ _ _ _ us hl => match us, hl with | [_, _], _ => rfl
  obtain ⟨fd42, F42⟩ := D.def_ 26 (d := d42) rfl
  have U42 : Fun K "_law_knotted" "_law_knotted" (top 42) (He.ga K "_law_knotted") fd42 := He5.fun_of F42
  have B42 : Binds K fd42 ["_law_dice_here"] [] := L2.Fun.binds U42 fun _ _ _ _ _ _ us hl => match us, hl with | [_], _ => rfl
  obtain ⟨fd43, F43⟩ := D.def_ 27 (d := d43) rfl
  have U43 : Fun K "_law_any" "_law_any" (top 43) (He.ga K "_law_any") fd43 := He5.fun_of F43
  have B43 : Binds K fd43 ["_law_dice_here", "_law_most"] [] := L2.Fun.binds U43 fun _ _ _ _ _ _ us hl => match us, hl with | [_, _], _ => rfl
  obtain ⟨fd44, F44⟩ := D.def_ 28 (d := d44) rfl
  have U44 : Fun K "_law_lined_question" "_law_lined_question" (top 44) (He.ga K "_law_lined_question") fd44 := He5.fun_of F44
  have B44 : Binds K fd44 ["_law_lines"] [] := L2.Fun.binds U44 fun _ _ _ _ _ _ us hl => match us, hl with | [_], _ => rfl
  obtain ⟨fd45, F45⟩ := D.def_ 29 (d := d45) rfl
  have U45 : Fun K "_law_question_lines" "_law_question_lines" (top 45) (He.ga K "_law_question_lines") fd45 := He5.fun_of F45
  have B45 : Binds K fd45 ["_law_plain"] [] := L2.Fun.binds U45 fun _ _ _ _ _ _ us hl => match us, hl with | [_], _ => rfl
  obtain ⟨fd46, F46⟩ := D.def_ 30 (d := d46) rfl
  have U46 : Fun K "_law_is_word" "_law_is_word" (top 46) (He.ga K "_law_is_word") fd46 := He5.fun_of F46
  have B46 : Binds K fd46 ["_law_value"] [] := L2.Fun.binds U46 fun _ _ _ _ _ _ us hl => match us, hl with | [_], _ => rfl
  obtain ⟨fd47, F47⟩ := D.def_ 31 (d := d47) rfl
  have U47 : Fun K "_law_read" "_law_read" (top 47) (He.ga K "_law_read") fd47 := He5.fun_of F47
  have B47 : Binds K fd47 ["_law_value"] [] := L2.Fun.binds U47 fun _ _ _ _ _ _ us hl => match us, hl with | [_], _ => rfl
  obtain ⟨fd48, F48⟩ := D.def_ 32 (d := d48) rfl
  have U48 : Fun K "_law_due" "_law_due" (top 48) (He.ga K "_law_due") fd48 := He5.fun_of F48
  have B48 : Binds K fd48 ["_law_values"] [] := L2.Fun.binds U48 fun _ _ _ _ _ _ us hl => match us, hl with | [_], _ => rfl
  obtain ⟨fd49, F49⟩ := D.def_ 33 (d := d49) rfl
  have U49 : Fun K "_law_told" "_law_told" (top 49) (He.ga K "_law_told") fd49 := He5.fun_of F49
  have B49 : Binds K fd49 ["_law_values"] [] := L2.Fun.binds U49 fun _ _ _ _ _ _ us hl => match us, hl with | [_], _ => rfl
  obtain ⟨fd50, F50⟩ := D.def_ 34 (d := d50) rfl
  have U50 : Fun K "_law_changed" "_law_changed" (top 50) (He.ga K "_law_changed") fd50 := He5.fun_of F50
  have B50 : Binds K fd50 ["_law_dice_here", "_law_lines"] [] := L2.Fun.binds U50 fun _ _ _ _ _ _ us hl => match us, hl with | [_, _], _ => rfl
  obtain ⟨fd51, F51⟩ := D.def_ 35 (d := d51) rfl
  have U51 : Fun K "law" "law" (top 51) (He.ga K "law") fd51 := He5.fun_of F51
  have B51 : Binds K fd51 ["_law_script"] [] := L2.Fun.binds U51 fun _ _ _ _ _ _ us hl => match us, hl with | [_], _ => rfl
  obtain ⟨fdm0, Fm0⟩ := D.def_ 36 (d := dm0) rfl
  have Um0 : Fun K "__init__" "Question.__init__" (sQ 0) (He.ma K (caQ K) "__init__") fdm0 := He5.fun_of Fm0
  have Bm0 : Binds K fdm0 ["self", "clauses", "asked"] [] := L2.Fun.binds Um0 fun _ _ _ _ _ _ us hl => match us, hl with | [_, _, _], _ => rfl
  obtain ⟨fdp0, Fp0⟩ := D.def_ 37 (d := dp0) rfl
  obtain ⟨fdg2, Fg2⟩ := cg.def_ 0 (d := dg2) rfl
  have Ug2 : Fun K "clauses" "Question.clauses" (sQ 2) (gG K "clauses") fdg2 := He5.fun_of Fg2
  have Bg2 : Binds K fdg2 ["self"] [] := L2.Fun.binds Ug2 fun _ _ _ _ _ _ us hl => match us, hl with | [_], _ => rfl
  obtain ⟨fdg3, Fg3⟩ := cg.def_ 1 (d := dg3) rfl
  have Ug3 : Fun K "asked" "Question.asked" (sQ 3) (gG K "asked") fdg3 := He5.fun_of Fg3
  have Bg3 : Binds K fdg3 ["self"] [] := L2.Fun.binds Ug3 fun _ _ _ _ _ _ us hl => match us, hl with | [_], _ => rfl
  obtain ⟨fdg4, Fg4⟩ := cg.def_ 2 (d := dg4) rfl
  have Ug4 : Fun K "lines" "Question.lines" (sQ 4) (gG K "lines") fdg4 := He5.fun_of Fg4
  have Bg4 : Binds K fdg4 ["self"] [] := L2.Fun.binds Ug4 fun _ _ _ _ _ _ us hl => match us, hl with | [_], _ => rfl
  obtain ⟨fdg1, Fg1⟩ := cg.def_ 3 (d := dg1) rfl
  have Ug1 : Fun K "from_lines" "Question.from_lines" (sQ 1) (gC K "from_lines") fdg1 := He5.fun_of Fg1
  have t1 : T1 K mg := ⟨(fr 39 rfl), (fr 40 rfl), (fr 41 rfl), (nt 62 rfl)⟩
  have t2 : T2 K mg _ _ := ⟨t1, (gl 3 rfl), F10.kp, (gl 5 rfl), F12.kp, (nt 59 rfl), (nt 58 rfl), (fr 42 rfl), (fr 43 rfl), (fr 44 rfl), (fr 45 rfl), (fr 46 rfl), (fr 47 rfl)⟩
  have t3 : T3 K mg _ _ _ := ⟨t2, (gl 6 rfl), F13.kp⟩
  have t4 : T4 K mg _ _ _ := ⟨t3, (fr 53 rfl)⟩
  have tz : TZ K mg := ⟨(fr 56 rfl), (fr 46 rfl)⟩
  have tc : TC K mg _ _ _ := ⟨t3, (nt 60 rfl), (nt 61 rfl)⟩
  have tl : TL K mg _ _ := ⟨(fr 40 rfl), (fr 48 rfl), (fr 49 rfl), (fr 42 rfl), (gl 18 rfl), F31.kp, (gl 19 rfl), F32.kp⟩
  have tm : TM K mg _ _ := ⟨tl, (fr 51 rfl), (fr 52 rfl)⟩
  have tq : TQ K mg := ⟨(fr 44 rfl), (fr 55 rfl), (fr 53 rfl), (fr 51 rfl)⟩
  have ta : TA K mg := ⟨tq, (fr 42 rfl)⟩
  have td : TD K mg := ⟨ta, (fr 52 rfl)⟩
  have tls : TLs K mg := ⟨ta, (fr 45 rfl)⟩
  have gQ : mg "Question" = some (.ref (caQ K)) := (gl 0 rfl)
  have gP : mg "ParseError" = some (.ref (caP K)) := (gl 1 rfl)
  have gI : mg "InvalidQuestion" = some (.ref (He.ga K "InvalidQuestion")) := (gl 2 rfl)
  have tqu : TQu K (caQ K) := ⟨He.cls_ok (D.fact 63 (f := .cls "Question") rfl), (na 64 rfl), (na 65 rfl), (na 66 rfl), (na 67 rfl)⟩
  have mk : Mk K (caQ K) (He.ma K (caQ K) "__init__") := He.mkr_ok (D.fact 69 (f := .mkr "Question") rfl)
  obtain ⟨q1, q2, q3, q4⟩ := He.exc_ok (D.fact 70 (f := .exc "InvalidQuestion") rfl)
  have xv : XV K mg "InvalidQuestion" (He.ga K "InvalidQuestion") := ⟨⟨gI, q2, q3, q4⟩, q1⟩
  have txp := txtP gP pe Fp0
  have mkP : Makes K P w (caP K) "number" := fun X hl hr hq => Par.made1 txp X hl hr hq
  have ttp : TTo K mg (caP K) (He.ga K "InvalidQuestion") := ⟨(fr 51 rfl), gP, gI, He.exm_ok (D.fact 71 (f := .exm "ParseError" "ParseError" true) rfl), He.exm_ok (D.fact 72 (f := .exm "InvalidQuestion" "ParseError" false) rfl), He.exm_ok (D.fact 73 (f := .exm "InvalidQuestion" "InvalidQuestion" true) rfl), pe.xf, pe.no⟩
  refine ⟨(gl 38 rfl), fd51, fun s u => ?_, fun base KB GB => ?_⟩
  · obtain ⟨oc, od, kV, doc, pm, an, cdv, ct, osl, e, _, _⟩ := U51.ex
    subst e
    exact .of_eq rfl
  have G10 := ok_isInt (P := P) (w := w) (mg := mg) (base := base) U10 t1
  have G12 := ok_isWid (P := P) (w := w) (mg := mg) (base := base) U12 t2 G10 B10
  have G13 := ok_isNam (P := P) (w := w) (mg := mg) (base := base) U13 t2
  have G14 := ok_areNam (P := P) (w := w) (mg := mg) (base := base) U14 t3 G13 B13
  have G15 := ok_diff (P := P) (w := w) (mg := mg) (base := base) U15 t4
  have G16 := ok_isAsc (P := P) (w := w) (mg := mg) (base := base) U16 tz
  have G11 := ok_isPr (P := P) (w := w) (mg := mg) (base := base) U11 t3
  have G17 := ok_words (P := P) (w := w) (mg := mg) (base := base) U17 ⟨(fr 39 rfl), (fr 43 rfl), (fr 44 rfl)⟩
  have G21 := ok_isCl (P := P) (w := w) (mg := mg) (base := base) U21 t3 ⟨(gl 4 rfl), F11.kp⟩ G11 B11 G12 B12 G13 B13 ⟨(gl 7 rfl), F14.kp⟩ G14 B14
  have G22 := ok_colsOf2 (P := P) (w := w) (mg := mg) (base := base) U22 tq
  have G23 := ok_tabsOf (P := P) (w := w) (mg := mg) (base := base) U23 ta
  have G24 := ok_areCl2 (P := P) (w := w) (mg := mg) (base := base) U24 tc ⟨(gl 11 rfl), F21.kp⟩ G21 B21 ⟨(gl 9 rfl), F16.kp⟩ G16 B16 ⟨(gl 13 rfl), F23.kp⟩ G23 B23 ⟨(gl 12 rfl), F22.kp⟩ G22 B22
  have G25 := ok_areAsk2 (P := P) (w := w) (mg := mg) (base := base) U25 t2 ⟨(gl 7 rfl), F14.kp⟩ G14 B14 ⟨(gl 8 rfl), F15.kp⟩ G15 B15 ⟨(gl 12 rfl), F22.kp⟩ G22 B22
  have G27 := ok_clAs (P := P) (w := w) (mg := mg) (base := base) U27 (fr 42 rfl) ⟨(gl 10 rfl), F17.kp⟩ G17 B17 ⟨(gl 11 rfl), F21.kp⟩ G21 B21 ⟨(gl 7 rfl), F14.kp⟩ G14 B14 ⟨(gl 8 rfl), F15.kp⟩ G15 B15
  have Gm0 := ok_init2 (P := P) (w := w) (mg := mg) (base := base) Um0 tqu xv ⟨(gl 14 rfl), F24.kp⟩ G24 B24 ⟨(gl 15 rfl), F25.kp⟩ G25 B25 ⟨(gl 13 rfl), F23.kp⟩ G23 B23 ⟨(gl 12 rfl), F22.kp⟩ G22 B22
  have Gg2 := ok_gClauses (P := P) (w := w) (mg := mg) (base := base) Ug2 tqu
  have Gg3 := ok_gAsked (P := P) (w := w) (mg := mg) (base := base) Ug3 tqu
  have Gg4 := ok_gLines (P := P) (w := w) (mg := mg) (base := base) Ug4 tqu
  have Gg1 := fn_from (P := P) (w := w) (mg := mg) (base := base) Ug1 ⟨(fr 57 rfl), (fr 55 rfl), (fr 44 rfl)⟩ txp.toCls0 mkP mk ⟨(gl 16 rfl), F27.kp⟩ G27 B27 Gm0 Bm0
  have G30 := ok_dice (P := P) (w := w) (mg := mg) (base := base) U30 tl
  have G31 := ok_roll (P := P) (w := w) (mg := mg) (base := base) U31 tl
  have G32 := ok_pick (P := P) (w := w) (mg := mg) (base := base) U32 tl G31 B31
  have G33 := ok_mixed (P := P) (w := w) (mg := mg) (base := base) U33 tm G31 B31
  have G34 := ok_quest (P := P) (w := w) (mg := mg) (base := base) U34 tq
  have G36 := ok_cols (P := P) (w := w) (mg := mg) (base := base) U36 ta
  have G38 := ok_names (P := P) (w := w) (mg := mg) (base := base) U38 
  have G39 := ok_asking (P := P) (w := w) (mg := mg) (base := base) U39 ta ⟨(gl 21 rfl), F34.kp⟩ G34 B34 ⟨(gl 23 rfl), F36.kp⟩ G36 B36 ⟨(gl 20 rfl), F33.kp⟩ G33 B33 ⟨(gl 18 rfl), F31.kp⟩ G31 B31
  have ld : LD P w K mg base _ _ _ _ _ _ _ _ _ _ := ⟨⟨(gl 18 rfl), F31.kp⟩, G31, B31, ⟨(gl 19 rfl), F32.kp⟩, G32, B32, ⟨(gl 20 rfl), F33.kp⟩, G33, B33, ⟨(gl 25 rfl), F38.kp⟩, G38, B38, ⟨(gl 26 rfl), F39.kp⟩, G39, B39⟩
  have G40 := ok_drawn (P := P) (w := w) (mg := mg) (base := base) U40 td ld
  have G41 := ok_tree (P := P) (w := w) (mg := mg) (base := base) U41 td ld
  have G42 := ok_knotted (P := P) (w := w) (mg := mg) (base := base) U42 td ld
  have G43 := ok_any (P := P) (w := w) (mg := mg) (base := base) U43 ⟨(gl 18 rfl), F31.kp⟩ G31 B31 ⟨(gl 28 rfl), F41.kp⟩ G41 B41 ⟨(gl 29 rfl), F42.kp⟩ G42 B42 ⟨(gl 27 rfl), F40.kp⟩ G40 B40
  have G35 := ok_made2 (P := P) (w := w) (mg := mg) (base := base) U35 (fr 44 rfl) gQ mk Gm0 Bm0
  have Gc2 := ok_cols2 (P := P) (w := w) (mg := mg) (base := base) U36 ta
  have G37 := ok_lWid2 (P := P) (w := w) (mg := mg) (base := base) U37 tls
  have G44 := ok_lined (P := P) (w := w) (mg := mg) (base := base) U44 ⟨(fr 51 rfl), (fr 42 rfl)⟩ gQ rd cm Gg1
  have G45 := ok_lLin (P := P) (w := w) (mg := mg) (base := base) U45 tls
  have G46 := ok_isWord (P := P) (w := w) (mg := mg) (base := base) U46 ⟨(fr 39 rfl), (fr 42 rfl), (fr 43 rfl)⟩
  have G47 := ok_read (P := P) (w := w) (mg := mg) (base := base) U47 ⟨(fr 39 rfl), (fr 43 rfl), (fr 44 rfl), (fr 53 rfl), (fr 42 rfl)⟩ ⟨(gl 33 rfl), F46.kp⟩ G46 B46
  have G48 := ok_due (P := P) (w := w) (mg := mg) (base := base) U48 ⟨(fr 57 rfl), (fr 55 rfl), (fr 51 rfl), (fr 42 rfl)⟩ ⟨(gl 34 rfl), F47.kp⟩ G47 B47 ⟨(gl 23 rfl), F36.kp⟩ Gc2 B36 ⟨(gl 24 rfl), F37.kp⟩ G37 B37
  have G49 := ok_told (P := P) (w := w) (mg := mg) (base := base) U49 ttp tqu ⟨_, _, _, pr 0 rfl, Gg2, Bg2⟩ ⟨_, _, _, pr 1 rfl, Gg3, Bg3⟩ ⟨(gl 31 rfl), F44.kp⟩ G44 B44
  have G50 := ok_chg (P := P) (w := w) (mg := mg) (base := base) U50 ⟨(fr 42 rfl), (fr 39 rfl), (fr 43 rfl)⟩ ⟨(gl 18 rfl), F31.kp⟩ G31 B31 ⟨(gl 19 rfl), F32.kp⟩ G32 B32
  have ll : LL P w K mg base (caQ K) _ _ _ _ _ _ _ _ _ _ _ _ _ _ _ _ _ _ := ⟨(fr 42 rfl), (fr 49 rfl), (fr 50 rfl), (fr 52 rfl), (fr 51 rfl), (fr 54 rfl), ⟨(gl 17 rfl), F30.kp⟩, G30, B30, ⟨(gl 18 rfl), F31.kp⟩, G31, B31, ⟨(gl 30 rfl), F43.kp⟩, G43, B43, ⟨(gl 22 rfl), F35.kp⟩, G35, B35, ⟨(gl 20 rfl), F33.kp⟩, G33, B33, ⟨(gl 32 rfl), F45.kp⟩, G45, B45, ⟨(gl 36 rfl), F49.kp⟩, G49, B49, ⟨(gl 37 rfl), F50.kp⟩, G50, B50, ⟨(gl 35 rfl), F48.kp⟩, G48, B48, tqu.cl, ⟨_, _, _, pr 2 rfl, Gg4, Bg4⟩⟩
  exact ok_law (P := P) (w := w) (mg := mg) (base := base) U51 ll
theorem walk_ofG {l : PySem.W.OpenLaw} {n k : Nat} {q : Program} {loose : List Str} {XP : (Str → Option Value) → Heap → Prop} {YP : World → Heap → Prop} {d : DefRec} {CX : CXT} {x : Str}
    (hn : l.most = some n) (hn2 : n ≤ sizeLine) (hdf : d.params.defaults = []) (hr : Room k callerA)
    (F : ∀ (w : World) (mg : Str → Option Value) (fa : Addr) (h : Heap), YP w h → h.Ns mainGlobals mg → mg d.name = some (.ref fa) → ∃ (K : PySem.W.Frag) (fd : FuncData) (cs : List (Addr × Addr)) (sp : Sp), K.In h ∧ (∀ p ∈ cs, h.get? p.2 = some { cls := .none, data := .fields #[] }) ∧ (∀ p ∈ cs, K.lookup p.2 = none) ∧
      (∀ p ∈ cs, PySem.W.CodeHd h p.1 p.2) ∧ (∀ (s : Shared) (u : Value), BindsTo s fd ⟨[u], []⟩ [(x, u)]) ∧ (∀ (H : Hp) (a : Addr) (ns : List Int), (∀ p ∈ cs, H p.2 = some (.tbl #[])) → SqL K H a (ns.map V.int) → sp [.ref a] H (fun v _ => v = .bl true) fun _ _ _ => False) ∧
      ∀ base : Heap, K.In base → base.Ns mainGlobals mg → (∀ p ∈ cs, LamX.TabB base mg p.1 p.2) → FnG l.prog w K mg base CX k fa fd [x] sp)
    (hCX : ∀ (H : Hp) (s : Shared) (e : Value) (s' : Shared), CX [] H s (fun _ _ _ => False) e s' → False) : PySem.W.WalkO q loose XP YP l.row.toRowW d [] (fun f vs => PySem.call f vs) := by
  refine Att.attach_callB hn hdf fun w s0 s1 mg mb fa o pm cd doc a vs ns G Y ho hd hcd hmg hobj hints hlen _ hg => ?_
  obtain ⟨K, fd, cs, sp, KX, hT, nT, C, hb, hsp, hF⟩ := F w mg fa _ Y G.T.g hmg
  have back : ∀ q ∈ cs.map (·.2), ∃ p ∈ cs, p.2 = q := fun q hq => List.mem_map.mp hq
  have Fo : Fore K mg mb (cs.map (·.2)) a vs ns s1 := ⟨KX, G.T.g, G.T.b, G.T.builtins, G.T.nolimit, hg, fun q hq => by
    obtain ⟨p, hp, e⟩ := back q hq
    rw [← e]
    exact hT p hp, fun q hq => by
    obtain ⟨p, hp, e⟩ := back q hq
    rw [← e]
    exact nT p hp, G.T.bmain, hobj, hints, Nat.le_trans hlen hn2⟩
  exact law_callG (cs := cs) Fo (fun p hp => ⟨List.mem_map.mpr ⟨p, hp, rfl⟩, C p hp⟩) (fun q hq => by
    obtain ⟨p, hp, e⟩ := back q hq
    rw [← e]
    exact ⟨p.1, C p hp⟩) hr hF hb (fun H hH hS => hsp H a ns (fun p hp => hH _ (List.mem_map.mpr ⟨p, hp, rfl⟩)) hS) fun H e s' => hCX H s1 e s'
end K0

/-! ## U3 -/
set_option maxRecDepth 100000
set_option maxHeartbeats 0
open PySem PySem.W PySem.Calls PyProof.Rows
theorem PySem.Challenge.cw_joinhouse_k03_whole_lines_of_questions_holds : PySem.Challenge.rw_joinhouse_k03_whole_lines_of_questions.Holds := by
  w_on; o_law
  refine HandSHeadRun.head_imp (r := OpenLaw.row PySem.Challenge.rw_joinhouse_k03_whole_lines_of_questions) (q := view (OpenLaw.row PySem.Challenge.rw_joinhouse_k03_whole_lines_of_questions).prog [51]) (H := K0.hkY) (ob := K0.ob0) (M := 60000) (loose := K0.loose0)
    (d := HandSHeadRun.topDef (OpenLaw.row PySem.Challenge.rw_joinhouse_k03_whole_lines_of_questions).prog 51) (kwd := []) K0.ob0_eq K0.run0 (by kernel_rfl) (by kernel_rfl) (by kernel_rfl) (by rfl) (by first | assumption | decide +kernel) (by decide +kernel) ⟨rfl, rfl, rfl, rfl, rfl, by decide +kernel⟩ ?hw ?hc
  case hw => w_witness2
  case hc =>
    refine K0.walk_ofG (l := PySem.Challenge.rw_joinhouse_k03_whole_lines_of_questions) (n := 63) (k := 11) (x := "_law_script") (CX := L2.CX0) rfl (by decide) (by kernel_rfl) ⟨rfl, by decide, by decide⟩ ?F (fun _ _ _ _ z => z)
    intro w mg fa h Y G hmg0
    obtain ⟨K, KX, c, cm, cg⟩ := Y
    have hmg : mg ("law" : PySem.Str) = some (.ref fa) := by
      have e : (HandSHeadRun.topDef (OpenLaw.row PySem.Challenge.rw_joinhouse_k03_whole_lines_of_questions).prog 51).name = ("law" : PySem.Str) := by kernel_rfl
      rw [← e]
      exact hmg0
    obtain ⟨gL, fd, hb, hF⟩ := K0.facts (P := (PySem.Challenge.rw_joinhouse_k03_whole_lines_of_questions).prog) (w := w) KX G c cm cg
    have ea : fa = He.ga K "law" := by
      rw [hmg] at gL
      cases gL
      rfl
    subst ea
    exact ⟨K, fd, [], K0.spLaw K, KX, (fun p hp => by cases hp), (fun p hp => by cases hp), (fun p hp => by cases hp), hb, fun H a ns _ hS => ⟨a, ns, rfl, hS, fun _ => rfl⟩, fun base KB GB _ => hF base KB GB⟩

import PyProof.Rows.All
import Wide.All
import OpenK.AllK
import Wide.FinOn
import HandS.ForMost
import HandS.IsInst
import HandS.Wide
import HandS.Words
import HandS.Head0
import HandS.Head1
import HandS.Head2
import HandS.Head3
import HandS.HeadHook4
import HandS.HeadNt
import HandS.SetFor
import HandS.Strs
import HandS.ListItems
import KE.KDictSum
import HandS.Walk
import HandS.TupSets
import KE.KeyNested
import HandS.SortOrd
import HandS.SortRule
import HandS.TupLe
import KE.KSortTup
import PyProof.Rows.SortKeyStr
import HandS.More
import HandS.OwnEq
import HandS.SlotsOwn
import KE.KCallOwn
import HandS.IterVal
import HandS.OwnIter
import HandS.TupLen
import HandS.Conv
import HandS.DictTup
import KE.KDictWalk
import KE.KDictCopyH
import KE.KDictZip
import HandS.Records
import HandS.DictEq
import KE.KDictPairs
import HandS.DictComp
import KE.KDictDisplayH
import HandS.Zip
import KE.GoesMore
import HandS.FStr
import HandS.Star
import HandS.Text
import HandS.Deep
import HandS.Dict
import HandS.Property
import HandS.Codes
import HandS.Style
import HandS.EndTab
import PySem.Challenge.RW_joinhouse_k28_polynomials_told
set_option Elab.async false
set_option linter.all false
/-! ## A1 -/
set_option maxRecDepth 100000
set_option maxHeartbeats 2000000
namespace K0
open PySem L2
abbrev tx : List Stmt := PySem.Challenge.pw_joinhouse_k28_polynomials_told.main.body
def top (i : Nat) : Stmt := tx.getD i (.Pass ⟨0, 0, 0, 0⟩)
abbrev sIsInt : Stmt := top 8
abbrev sIsCnt : Stmt := top 9
abbrev sIsWid : Stmt := top 11
/-- plain data as arguments -/
inductive Da (H : Hp) : V → Prop where
  | non : Da H .non
  | bl (b : Bool) : Da H (.bl b)
  | int (i : Int) : Da H (.int i)
  | str (x : Str) : Da H (.str x)
  | lst {a : Addr} {xs : List V} (h : H a = some (.lst xs)) : Da H (.ref a)
  | tup {a : Addr} {xs : List V} (h : H a = some (.tup xs)) : Da H (.ref a)
  | dK {a : Addr} {kvs : List (Key × V)} (h : H a = some (.dK kvs)) : Da H (.ref a)
def tyN (H : Hp) : V → String
  | .non => "NoneType"
  | .bl _ => "bool"
  | .int _ => "int"
  | .str _ => "str"
  | .ref a => match H a with
    | some (.lst _) => "list"
    | some (.tup _) => "tuple"
    | _ => "dict"
  | _ => ""
theorem Da.ty {K : PySem.W.Frag} {H : Hp} {v : V} (d : Da H v) : TyX K H v (.type (tyN H v)) := by
  cases d with
  | non => exact .base .non
  | bl b => exact .base (.bl b)
  | int i => exact .base (.int i)
  | str x => exact .base (.str x)
  | lst h => simp only [tyN, h]; exact .base (.lst h)
  | tup h => simp only [tyN, h]; exact .base (.tup h)
  | dK h => simp only [tyN, h]; exact .base (.dK h)
/-- an integer of at most sixty figures -/
@[irreducible] def big : Int := 10 ^ 60
def isI : V → Bool
  | .int i => decide (-big < i) && decide (i < big)
  | _ => false
def spIsInt : Sp := fun vs H Q _ => ∃ v, vs = [v] ∧ Da H v ∧ Q (.bl (isI v)) H
structure T1 (K : PySem.W.Frag) (mg : Str → Option Value) : Prop where
  isi : mg "isinstance" = none
  int : mg "int" = none
  bool : mg "bool" = none
  long : ∃ t, mg "_TOO_LONG" = some (.int big t)
theorem if_pos_of {c : Bool} {A B : Prop} (hc : c = true) (h : A) : if c = true then A else B := by
  rw [if_pos hc]
  exact h
theorem if_neg_of {c : Bool} {A B : Prop} (hc : c = false) (h : B) : if c = true then A else B := by
  rw [hc, if_neg Bool.false_ne_true]
  exact h
section
variable {P : Program} {w : World} {K : PySem.W.Frag} {mg : Str → Option Value} {base : Heap}
theorem scIsInt : FnScope ["value"] ["value"] (defScope sIsInt) := ⟨rfl, rfl, rfl, by decide +kernel, rfl, by decide +kernel, by decide +kernel⟩
theorem ok_isInt {f : Addr} {fd : FuncData} (F : Fun K "is_integer" "is_integer" sIsInt f fd) (T : T1 K mg) : FnOk P w K mg base CX0 1 f fd ["value"] spIsInt := by
  refine F.ok scIsInt (fun vs H Q E h => ?_) (fun cdv A outer s H vs Q E hr h => ?_)
  · obtain ⟨v, rfl, _⟩ := h
    rfl
  · obtain ⟨v, rfl, d, k⟩ := h
    obtain ⟨t, hl⟩ := T.long
    refine ⟨_, pss_one (ps_ret (pe_and (pe_callB call_isi (by rfl) T.isi (by decide +kernel) (pa_cons (pv 0) (pa_cons (pe_bltn (v := .ty "int") (by rfl) T.int (by decide +kernel) rfl) pa_nil)))
      (pe_and (pe_not (pe_callB call_isi (by rfl) T.isi (by decide +kernel) (pa_cons (pv 0) (pa_cons (pe_bltn (v := .ty "bool") (by rfl) T.bool (by decide +kernel) rfl) pa_nil))))
        (pe_one (pe_chain op_lt op_lt (pe_un un_neg (pe_glob (v := .int big) (by rfl) hl ⟨t, rfl⟩)) (pv 0) (pe_glob (v := .int big) (by rfl) hl ⟨t, rfl⟩)))))), ?_⟩
    cases d with
    | int i =>
      refine ⟨_, rfl, _, _, _, _, true, rfl, .ty _, .base (.int i), kit_ty (by decide +kernel), true, rfl, iteT ?_⟩
      refine ⟨_, rfl, _, _, _, _, false, rfl, .ty _, .base (.int i), kit_ty (by decide +kernel), false, rfl, true, rfl, iteT ?_⟩
      refine ⟨_, rfl, _, rfl, _, _, rfl, rfl, _, rfl, ?_⟩
      by_cases c1 : -big < i
      · refine if_pos_of (decide_eq_true c1) ⟨_, _, rfl, rfl, ?_⟩
        have e : isI (.int i) = decide (i < big) := by simp [isI, c1]
        rw [e] at k
        exact k
      · refine if_neg_of (decide_eq_false c1) ?_
        have e : isI (.int i) = false := by simp [isI, c1]
        rw [e] at k
        exact k
    | bl b =>
      refine ⟨_, rfl, _, _, _, _, true, rfl, .ty _, .base (.bl b), kit_ty (by decide +kernel), true, rfl, iteT ?_⟩
      refine ⟨_, rfl, _, _, _, _, true, rfl, .ty _, .base (.bl b), kit_ty (by decide +kernel), true, rfl, false, rfl, iteF ?_⟩
      exact k
    | non => exact ⟨_, rfl, _, _, _, _, false, rfl, .ty _, .base .non, kit_ty (by decide +kernel), false, rfl, iteF k⟩
    | str x => exact ⟨_, rfl, _, _, _, _, false, rfl, .ty _, .base (.str x), kit_ty (by decide +kernel), false, rfl, iteF k⟩
    | lst e => exact ⟨_, rfl, _, _, _, _, false, rfl, .ty _, .base (.lst e), kit_ty (by decide +kernel), false, rfl, iteF k⟩
    | tup e => exact ⟨_, rfl, _, _, _, _, false, rfl, .ty _, .base (.tup e), kit_ty (by decide +kernel), false, rfl, iteF k⟩
    | dK e => exact ⟨_, rfl, _, _, _, _, false, rfl, .ty _, .base (.dK e), kit_ty (by decide +kernel), false, rfl, iteF k⟩
end
end K0

/-! ## U0 -/
set_option maxRecDepth 100000
set_option maxHeartbeats 0
namespace K0
open PySem L2
/-! ### the head: what is looked at when the top has run -/
def loose0a : List PySem.Str := [("JoinError" : PySem.Str), ("InvalidOperation" : PySem.Str), ("Whence" : PySem.Str), ("MAX_LETTERS" : PySem.Str), ("MAX_WIDTH" : PySem.Str), ("_TOO_LONG" : PySem.Str), ("MAX_TIMES" : PySem.Str), ("_wall" : PySem.Str), ("_check_amounts" : PySem.Str), ("_multiplied" : PySem.Str), ("_price" : PySem.Str), ("is_integer" : PySem.Str), ("is_count" : PySem.Str), ("is_pair" : PySem.Str)]
def loose0b : List PySem.Str := [("is_width" : PySem.Str), ("is_name" : PySem.Str), ("is_row" : PySem.Str), ("is_ascending" : PySem.Str), ("is_entry" : PySem.Str), ("_is_triple" : PySem.Str), ("_is_product" : PySem.Str), ("_are_parts" : PySem.Str), ("_times_of" : PySem.Str), ("_told_triple" : PySem.Str), ("_told_product" : PySem.Str), ("_law_dice" : PySem.Str), ("_law_roll" : PySem.Str), ("_law_pick" : PySem.Str)]
def loose0c : List PySem.Str := [("_law_mixed" : PySem.Str), ("_law_product" : PySem.Str), ("_law_polynomial" : PySem.Str), ("_law_text_of" : PySem.Str), ("_law_text" : PySem.Str), ("_law_told_right" : PySem.Str), ("_law_right" : PySem.Str)]
def loose0 : List PySem.Str := loose0a ++ loose0b ++ loose0c
def fa0a : List He.Fa := [.glo ("Whence" : PySem.Str), .glo ("is_integer" : PySem.Str), .glo ("is_count" : PySem.Str), .glo ("is_pair" : PySem.Str), .glo ("is_width" : PySem.Str), .glo ("is_name" : PySem.Str), .glo ("is_row" : PySem.Str), .glo ("is_ascending" : PySem.Str), .glo ("is_entry" : PySem.Str), .glo ("_is_triple" : PySem.Str)]
def fa0b : List He.Fa := [.glo ("_is_product" : PySem.Str), .glo ("_are_parts" : PySem.Str), .glo ("_times_of" : PySem.Str), .glo ("_told_triple" : PySem.Str), .glo ("_told_product" : PySem.Str), .glo ("_law_dice" : PySem.Str), .glo ("_law_roll" : PySem.Str), .glo ("_law_pick" : PySem.Str), .glo ("_law_mixed" : PySem.Str), .glo ("_law_product" : PySem.Str)]
def fa0c : List He.Fa := [.glo ("_law_polynomial" : PySem.Str), .glo ("_law_text_of" : PySem.Str), .glo ("_law_text" : PySem.Str), .glo ("_law_told_right" : PySem.Str), .glo ("_law_right" : PySem.Str), .glo ("law" : PySem.Str), .free ("isinstance" : PySem.Str), .free ("int" : PySem.Str), .free ("bool" : PySem.Str), .free ("len" : PySem.Str)]
def fa0d : List He.Fa := [.free ("str" : PySem.Str), .free ("tuple" : PySem.Str), .free ("dict" : PySem.Str), .free ("all" : PySem.Str), .free ("any" : PySem.Str), .free ("abs" : PySem.Str), .free ("max" : PySem.Str), .free ("min" : PySem.Str), .free ("list" : PySem.Str), .free ("range" : PySem.Str)]
def fa0e : List He.Fa := [.free ("set" : PySem.Str), .free ("repr" : PySem.Str), .free ("sorted" : PySem.Str), .free ("zip" : PySem.Str), .free ("enumerate" : PySem.Str), .free ("iter" : PySem.Str), .free ("sum" : PySem.Str), .int ("MAX_LETTERS" : PySem.Str) 8, .int ("MAX_WIDTH" : PySem.Str) 8, .int ("MAX_TIMES" : PySem.Str) 64]
def fa0f : List He.Fa := [.int ("_TOO_LONG" : PySem.Str) big, .cls ("Whence" : PySem.Str), .noat "Whence" ("_parts" : PySem.Str), .meth "Whence" ("__init__" : PySem.Str), .meth "Whence" ("__contains__" : PySem.Str), .meth "Whence" ("__len__" : PySem.Str), .meth "Whence" ("__iter__" : PySem.Str), .meth "Whence" ("__eq__" : PySem.Str), .meth "Whence" ("__str__" : PySem.Str), .mkr ("Whence" : PySem.Str)]
def fa0 : List He.Fa := fa0a ++ fa0b ++ fa0c ++ fa0d ++ fa0e ++ fa0f
def d8 : He.DefD := ⟨("is_integer", none), "is_integer", "is_integer", defArgs (top 8), defBody (top 8), defScope (top 8), [], []⟩
def d9 : He.DefD := ⟨("is_count", none), "is_count", "is_count", defArgs (top 9), defBody (top 9), defScope (top 9), [], []⟩
def d10 : He.DefD := ⟨("is_pair", none), "is_pair", "is_pair", defArgs (top 10), defBody (top 10), defScope (top 10), [], []⟩
def d11 : He.DefD := ⟨("is_width", none), "is_width", "is_width", defArgs (top 11), defBody (top 11), defScope (top 11), [], []⟩
def d12 : He.DefD := ⟨("is_name", none), "is_name", "is_name", defArgs (top 12), defBody (top 12), defScope (top 12), [], []⟩
def d13 : He.DefD := ⟨("is_row", none), "is_row", "is_row", defArgs (top 13), defBody (top 13), defScope (top 13), [], []⟩
def d14 : He.DefD := ⟨("is_ascending", none), "is_ascending", "is_ascending", defArgs (top 14), defBody (top 14), defScope (top 14), [], []⟩
def d16 : He.DefD := ⟨("is_entry", none), "is_entry", "is_entry", defArgs (top 16), defBody (top 16), defScope (top 16), [], []⟩
def d19 : He.DefD := ⟨("_is_triple", none), "_is_triple", "_is_triple", defArgs (top 19), defBody (top 19), defScope (top 19), [], []⟩
def d20 : He.DefD := ⟨("_is_product", none), "_is_product", "_is_product", defArgs (top 20), defBody (top 20), defScope (top 20), [], []⟩
def d21 : He.DefD := ⟨("_are_parts", none), "_are_parts", "_are_parts", defArgs (top 21), defBody (top 21), defScope (top 21), [], []⟩
def d24 : He.DefD := ⟨("_times_of", none), "_times_of", "_times_of", defArgs (top 24), defBody (top 24), defScope (top 24), [], []⟩
def d26 : He.DefD := ⟨("_told_triple", none), "_told_triple", "_told_triple", defArgs (top 26), defBody (top 26), defScope (top 26), [], []⟩
def d27 : He.DefD := ⟨("_told_product", none), "_told_product", "_told_product", defArgs (top 27), defBody (top 27), defScope (top 27), [], []⟩
def d30 : He.DefD := ⟨("_law_dice", none), "_law_dice", "_law_dice", defArgs (top 30), defBody (top 30), defScope (top 30), [], []⟩
def d31 : He.DefD := ⟨("_law_roll", none), "_law_roll", "_law_roll", defArgs (top 31), defBody (top 31), defScope (top 31), [], []⟩
def d32 : He.DefD := ⟨("_law_pick", none), "_law_pick", "_law_pick", defArgs (top 32), defBody (top 32), defScope (top 32), [], []⟩
def d33 : He.DefD := ⟨("_law_mixed", none), "_law_mixed", "_law_mixed", defArgs (top 33), defBody (top 33), defScope (top 33), [], []⟩
def d34 : He.DefD := ⟨("_law_product", none), "_law_product", "_law_product", defArgs (top 34), defBody (top 34), defScope (top 34), [], []⟩
def d35 : He.DefD := ⟨("_law_polynomial", none), "_law_polynomial", "_law_polynomial", defArgs (top 35), defBody (top 35), defScope (top 35), [], []⟩
def d36 : He.DefD := ⟨("_law_text_of", none), "_law_text_of", "_law_text_of", defArgs (top 36), defBody (top 36), defScope (top 36), [], []⟩
def d37 : He.DefD := ⟨("_law_text", none), "_law_text", "_law_text", defArgs (top 37), defBody (top 37), defScope (top 37), [], []⟩
def d38 : He.DefD := ⟨("_law_told_right", none), "_law_told_right", "_law_told_right", defArgs (top 38), defBody (top 38), defScope (top 38), [], []⟩
def d39 : He.DefD := ⟨("_law_right", none), "_law_right", "_law_right", defArgs (top 39), defBody (top 39), defScope (top 39), [], []⟩
def d40 : He.DefD := ⟨("law", none), "law", "law", defArgs (top 40), defBody (top 40), defScope (top 40), [], []⟩
def dm0 : He.DefD := ⟨("Whence", some "__init__"), "__init__", "Whence.__init__", defArgs (inClass (top 28) 0), defBody (inClass (top 28) 0), defScope (inClass (top 28) 0), [], []⟩
def dm12 : He.DefD := ⟨("Whence", some "__contains__"), "__contains__", "Whence.__contains__", defArgs (inClass (top 28) 12), defBody (inClass (top 28) 12), defScope (inClass (top 28) 12), [], []⟩
def dm13 : He.DefD := ⟨("Whence", some "__len__"), "__len__", "Whence.__len__", defArgs (inClass (top 28) 13), defBody (inClass (top 28) 13), defScope (inClass (top 28) 13), [], []⟩
def dm14 : He.DefD := ⟨("Whence", some "__iter__"), "__iter__", "Whence.__iter__", defArgs (inClass (top 28) 14), defBody (inClass (top 28) 14), defScope (inClass (top 28) 14), [], []⟩
def dm15 : He.DefD := ⟨("Whence", some "__eq__"), "__eq__", "Whence.__eq__", defArgs (inClass (top 28) 15), defBody (inClass (top 28) 15), defScope (inClass (top 28) 15), [], []⟩
def dm16 : He.DefD := ⟨("Whence", some "__str__"), "__str__", "Whence.__str__", defArgs (inClass (top 28) 16), defBody (inClass (top 28) 16), defScope (inClass (top 28) 16), [], []⟩
def fn0a : List He.DefD := [d8, d9, d10, d11, d12, d13, d14, d16, d19, d20, d21, d24]
def fn0b : List He.DefD := [d26, d27, d30, d31, d32, d33, d34, d35, d36, d37, d38, d39]
def fn0c : List He.DefD := [d40, dm0, dm12, dm13, dm14, dm15, dm16]
def fn0 : List He.DefD := fn0a ++ fn0b ++ fn0c
def caQ (K : PySem.W.Frag) : Addr := He.ga K "Whence"
/-- a property's function -/
def gG (K : PySem.W.Frag) (f : Str) : Addr := He5.wf K (caQ K) "property" f
def dg1 : He5.DefA := ⟨fun K => gG K "parts", "parts", "Whence.parts", defArgs (inClass (top 28) 1), defBody (inClass (top 28) 1), defScope (inClass (top 28) 1), [], []⟩
def dg2 : He5.DefA := ⟨fun K => gG K "unknowns", "unknowns", "Whence.unknowns", defArgs (inClass (top 28) 2), defBody (inClass (top 28) 2), defScope (inClass (top 28) 2), [], []⟩
def dg3 : He5.DefA := ⟨fun K => gG K "ways", "ways", "Whence.ways", defArgs (inClass (top 28) 3), defBody (inClass (top 28) 3), defScope (inClass (top 28) 3), [], []⟩
def dg4 : He5.DefA := ⟨fun K => gG K "needed", "needed", "Whence.needed", defArgs (inClass (top 28) 4), defBody (inClass (top 28) 4), defScope (inClass (top 28) 4), [], []⟩
def fg0a : List He5.DefA := [dg1, dg2, dg3, dg4]
def fg0 : List He5.DefA := fg0a
def prNa : List PySem.Str := [("parts" : PySem.Str), ("unknowns" : PySem.Str), ("ways" : PySem.Str), ("needed" : PySem.Str)]
def prN : List PySem.Str := prNa
def prB (K : PySem.W.Frag) (f : Str) : Bool := decide (PySem.W.findIn K (.ref (caQ K)) f = some (some (.ref (He.ma K (caQ K) f)))) && (decide (PySem.W.specialIn K (.ref (He.ma K (caQ K) f)) "__get__" = some (some (.builtin "property.__get__"))) &&
  (decide (PySem.W.takesIn K (.ref (He.ma K (caQ K) f)) = some true) && (match PySem.W.recIn K (He.ma K (caQ K) f) "property" with
  | some (.ref _ :: _) => true
  | _ => false)))
def ex1 (K : PySem.W.Frag) : Bool := decide (PySem.W.findIn K (.ref (caQ K)) "__class__" = some (some (.builtin "object.__class__"))) && (decide (PySem.W.specialIn K (.builtin "object.__class__") "__get__" = some (some (.builtin "getset_descriptor.__get__"))) &&
  (decide (PySem.W.takesIn K (.builtin "object.__class__") = some true) && (decide (PySem.W.mroIn K (caQ K) (.type "object") = some true) && (decide (PySem.W.kitOne K (.ref (caQ K)) (.ref (caQ K)) = some true) &&
  (decide (PySem.W.kitOne K (.ref (caQ K)) (.type "tuple") = some false) && (decide (PySem.W.kitOne K (.type "dict") (.ref (caQ K)) = some false) && decide (PySem.W.kitOne K (.type "NoneType") (.ref (caQ K)) = some false)))))))
def ex2 (K : PySem.W.Frag) : Bool := decide (PySem.W.findIn K (.ref (caQ K)) "__ne__" = some (some (.builtin "object.__ne__"))) && (PySem.W.notFirst K (caQ K) (.ref (caQ K)) && (PySem.W.notFirst K (caQ K) (.type "dict") && PySem.W.notFirst K (caQ K) (.type "NoneType")))
def ex0 (K : PySem.W.Frag) : Bool := prN.all (prB K) && (ex1 K && ex2 K)
def nG : Nat := 6
/-! ### the Hook: names, one Bool, and the functions of properties -/
def obY (g : Addr → Option Obj) : He.AlX × He.AlD := (He.obsX nG fa0 fn0 [] [] ex0 g, He5.obsA [] fg0 (He.frT g (He.asD g nG)))
def hkY : PySem.W.Hook where
  α := He.AlX × He.AlD
  obs := fun s => obY s.heap.get?
  val := fun w => (He.valX fn0 [] w, He5.valA fg0)
  says := fun w h => ∃ K : PySem.W.Frag, K.In h ∧ He.SaysX fa0 fn0 [] [] ex0 w h K ∧ He5.SaysA [] fg0 K
  of := fun _ _ e => ⟨_, He.frT_in, He.saysX_of (congrArg Prod.fst e), congrArg Prod.snd e⟩
  keeps := fun _ _ _ ⟨K, hK, c, d⟩ k => ⟨K, PySem.W.Frag.In.keeps hK k, ⟨c.t, c.more, c.hd, c.out, fun p hp => k _ _ (c.empty p hp)⟩, d⟩
abbrev Rw : PySem.W.OpenRow := PySem.W.OpenLaw.row PySem.Challenge.rw_joinhouse_k28_polynomials_told
abbrev qv0 : Program := PySem.W.view Rw.prog [40]
def ob0 (s : PySem.W.SharedT) : He.AlX × He.AlD := obY (HandSHeadRun.getT s)
theorem ob0_eq (s : PySem.W.SharedT) : ob0 s = hkY.obs s.abs := by
  have e : HandSHeadRun.getT s = s.abs.heap.get? := funext (HandSHeadRun.getT_eq s)
  show obY (HandSHeadRun.getT s) = obY s.abs.heap.get?
  rw [e]
noncomputable abbrev wh0 (w : World) := HandSHeadRun.wholeF (fun p => HandSHeadRun.stepQ (HandSHeadRun.denQ HandSHeadRun.tabQ) p w) HandSHeadRun.fenceQ 60000 Rw.prog

end K0

/-! ## U1 -/
set_option maxRecDepth 100000
set_option maxHeartbeats 0
namespace K0
open PySem L2
theorem run12 (w : World) : ((wh0 w).map fun x => (HandSHeadRun.looksF Rw.prog x.1.heap x.2.abs, HandSHeadRun.seenQ qv0 loose0 (importedModules Rw.prog.main.body) (fun s => PySem.W.xlAt qv0 [] s && PySem.W.recOk Rw.toRowW.records s) x.2.abs)) = some (true, PySem.W.openGood qv0 loose0) := by kernel_rfl
theorem run3a (w : World) : ((wh0 w).map fun x => ((ob0 x.2).1.1.1.1, (ob0 x.2).1.2)) = some (true, true) := by kernel_rfl
theorem run3b (w : World) : ((wh0 w).map fun x => (ob0 x.2).1.1.1.2) = some (fn0.map He.DefD.val) := by kernel_rfl
theorem run3c (w : World) : ((wh0 w).map fun x => (ob0 x.2).2) = some (He5.valA fg0) := by kernel_rfl
/-- what is told of one run, put together -/
theorem run0 (w : World) : HandSHeadRun.RunEqI Rw qv0 hkY ob0 60000 loose0 w := by
  obtain ⟨x, e, e1⟩ := Option.map_eq_some_iff.mp (run12 w)
  have e2 := run3a w
  have e3 := run3b w
  have e6 := run3c w
  rw [e] at e2 e3 e6
  have h2 : ((ob0 x.2).1.1.1.1, (ob0 x.2).1.2) = (true, true) := Option.some.inj e2
  have h3 : (ob0 x.2).1.1.1.2 = fn0.map He.DefD.val := Option.some.inj e3
  have h6 : (ob0 x.2).2 = He5.valA fg0 := Option.some.inj e6
  have h4 : ob0 x.2 = hkY.val w := by
    show ob0 x.2 = ((((true, fn0.map He.DefD.val), []), true), He5.valA fg0)
    have h5 : (ob0 x.2).1.1.1.1 = true := congrArg Prod.fst h2
    have h7 : (ob0 x.2).1.2 = true := congrArg Prod.snd h2
    exact Prod.ext (Prod.ext (Prod.ext (Prod.ext h5 h3) rfl) h7) h6
  have e4 := congrArg Prod.fst e1
  have e5 := congrArg Prod.snd e1
  unfold HandSHeadRun.RunEqI
  show (wh0 w).map _ = _
  rw [e]
  exact congrArg some (Prod.ext e4 (Prod.ext e5 h4))
end K0

/-! ## B1 -/
set_option maxRecDepth 100000
set_option maxHeartbeats 2000000
noncomputable section
namespace K0
open PySem PySem.Spec PyProof.Rows L2
def keyT (e : Int × Value) : Str := match e.2 with | .str k _ => k | _ => Str.empty
def GoodT (w : World) (e : Int × Value) : Prop := ∃ k tk, e.2 = Value.str k tk ∧ e.1 = hashStr w k

/-- the set of ints at a: S its members, n their number; its table rises and can be walked -/
def SetT (w : World) (h : Heap) (a : Addr) (S : Str → Bool) (n : Nat) : Prop :=
  ∃ o es ep t, h.get? a = some o ∧ o.ExactSet ∧ o.data = .set es ep t ∧ (∀ e ∈ es.toList, GoodT w e) ∧ (es.toList.map keyT).Nodup ∧ (∀ k, S k = true ↔ k ∈ es.toList.map keyT) ∧
    es.size < scanBound ∧ t.fits es.size = true ∧ es.size = n ∧ Ris t.place.toList ∧ (w.params.followText "set-order" = true ∨ t.led = true)

section
variable {P : Program} {w : World} {h h' : Heap} {a : Addr} {S : Str → Bool} {n : Nat}

theorem SetT.at (R : SetT w h a S n) (k : ∀ o, h.get? a = some o → h'.get? a = some o) : SetT w h' a S n := by
  obtain ⟨o, es, ep, t, ho, r⟩ := R
  exact ⟨o, es, ep, t, k o ho, r⟩
theorem SetT.lt (R : SetT w h a S n) : a < h.objs.size := by
  obtain ⟨o, es, ep, t, ho, r⟩ := R
  exact Heap.lt_size ho
theorem SetT.congr {S' : Str → Bool} (R : SetT w h a S n) (e : ∀ k, S' k = S k) : SetT w h a S' n := by
  have q : S' = S := funext e
  rw [q]; exact R
theorem goodT_elems {l : List (Int × Value)} (g : ∀ e ∈ l, GoodT w e) : ElemsOf (strKind P w) l := fun e he => by
  obtain ⟨k, tk, h1, h2⟩ := g e he
  exact ⟨⟨k, by rw [h1]; exact strKind_is P w k tk, h2⟩, by rw [h1] <;> rfl⟩
theorem goodT_is {e : Int × Value} (g : GoodT w e) (k : Str) : (strKind P w).is k e.2 = true ↔ keyT e = k := by
  obtain ⟨k0, tk, h1, _⟩ := g
  unfold keyT
  rw [h1]
  show (Value.isStrOf k (.str k0 tk) = true) ↔ k0 = k
  simp only [Value.isStrOf, beq_iff_eq, decide_eq_true_eq]
theorem goodT_mem {l : List (Int × Value)} (g : ∀ e ∈ l, GoodT w e) (k : Str) : k ∈ l.map keyT ↔ ∃ e ∈ l, (strKind P w).is k e.2 = true := by
  rw [List.mem_map]
  constructor
  · rintro ⟨e, he, q⟩
    exact ⟨e, he, (goodT_is (g e he) k).2 q⟩
  · rintro ⟨e, he, q⟩
    exact ⟨e, he, (goodT_is (g e he) k).1 q⟩
theorem SetT.setOf (R : SetT w h a S n) : h.SetOf (strKind P w) a S n := by
  obtain ⟨o, es, ep, t, ho, hx, hd, g, nd, hm, hb, hf, hn, _⟩ := R
  exact ⟨o, es, ep, t, ho, hx, hd, goodT_elems g, fun k => (hm k).trans (goodT_mem g k), hb, hf, hn⟩
end

section
variable {P : Program} {w : World} {A : Around} {E : Value → Shared → Prop} {s : Shared} {a : Addr} {S : Str → Bool} {n : Nat}

/-! ### add -/
theorem setT_add_tail {g : Bool → Sem Unit} (hg : ∀ (b : Bool) (s₁ : Shared) (Q' : Unit → Shared → Prop), Q' () s₁ → wpAny (model P w) A (g b) Q' E s₁)
    {o : Obj} {es : Array (Int × Value)} {ep : Nat} {t : SetTable} (ho : s.heap.get? a = some o) (hex : o.ExactSet) (hd : o.data = .set es ep t)
    {es1 : Array (Int × Value)} {t2 : SetTable} {S' : Str → Bool} (g1 : ∀ e ∈ es1.toList, GoodT w e) (nd1 : (es1.toList.map keyT).Nodup) (m1 : ∀ k, S' k = true ↔ k ∈ es1.toList.map keyT)
    (hb1 : es1.size < scanBound) (hf2 : t2.fits es1.size = true) (hr : Ris t2.place.toList) (hl : w.params.followText "set-order" = true ∨ t2.led = true) {wasDummy : Bool} {R : Option Bool → Shared → Prop}
    (hR : ∀ h', Heap.SameBut a s.heap h' → SetT w h' a S' es1.size → R (some true) { s with heap := h' }) :
    wpAny (model P w) A (do
        storeSet a es1 t2
        if (!wasDummy && t2.tooFull) = true then do
            g (relayAll t2 es1 (SetTable.grown es1.size)).2.2
            storeSet a (relayAll t2 es1 (SetTable.grown es1.size)).1 (relayAll t2 es1 (SetTable.grown es1.size)).2.1
            pure (some true)
          else pure (some true)) R E s := by
  refine wpAny_bind (wpAny_storeSet_of ho hd ?_ (fits_of_scanBound hb1))
  have ho1 := store_at (es' := es1) (t' := t2) ho hd
  have sb1 := Heap.SameBut.update s.heap a (Obj.putSet es1 t2)
  split
  · have pm := relayAll_perm t2 es1 (SetTable.grown es1.size)
    have hf3 := relayAll_fits t2 es1 (SetTable.grown es1.size)
    have hr3 := relayAll_ris t2 es1 (SetTable.grown es1.size)
    have hl3 := relayAll_led t2 es1 (SetTable.grown es1.size)
    generalize relayAll t2 es1 (SetTable.grown es1.size) = Z at pm hf3 hr3 hl3 ⊢
    obtain ⟨es2, t3, gave⟩ := Z
    dsimp only at pm hf3 hr3 hl3 ⊢
    have hsz : es2.size = es1.size := by rw [← Array.length_toList, pm.length_eq, Array.length_toList]
    have hb2 : es2.size < scanBound := by rw [hsz]; exact hb1
    refine wpAny_bind (hg _ _ _ ?_)
    refine wpAny_bind (wpAny_storeSet_of ho1 rfl ?_ (fits_of_scanBound hb2))
    have ho2 := store_at (es' := es2) (t' := t3) ho1 rfl
    refine wpAny_pure (hR _ (sb1.trans (Heap.SameBut.update _ a _)) ?_)
    exact ⟨_, es2, _, t3, ho2, hex, rfl, fun e he => g1 e (pm.mem_iff.mp he), (pm.map keyT).nodup_iff.mpr nd1, fun k => (m1 k).trans (pm.map keyT).mem_iff.symm, hb2, hf3, hsz, hr3,
      hl.imp id fun z => by rw [hl3]; exact z⟩
  · exact wpAny_pure (hR _ sb1 ⟨_, es1, _, t2, ho1, hex, rfl, g1, nd1, m1, hb1, hf2, rfl, hr, hl⟩)

theorem setT_add_hashed {k : Str} {tk : Tok} {Q : Bool → Shared → Prop} (R : SetT w s.heap a S n) (room : n + 1 < scanBound)
    (hQ : ∀ h', Heap.SameBut a s.heap h' → SetT w h' a (fun j => S j || decide (j = k)) (if S k = true then n else n + 1) → Q (!S k) { s with heap := h' }) :
    wpAny (model P w) A (setAddHashed a (.str k tk) ((strKind P w).hash k)) Q E s := by
  obtain ⟨o, es, ep, t, ho, hex, hd, g, nd, hm, hb, hf, hn, hr, hl⟩ := R
  have hkey : (strKind P w).is k (.str k tk) = true := strKind_is P w k tk
  have hsc : (Value.str k tk).scannable = true := rfl
  have hel : ElemsOf (strKind P w) es.toList := goodT_elems g
  unfold setAddHashed setAddHashedIn
  refine wpAny_holding (wpAny_bind (wpAny_setState_of ho hd hf ?_))
  dsimp only
  rw [byScan_of hsc hb hel]
  simp only [↓reduceIte]
  unfold setAddByScan
  refine wpAny_bind ?_
  refine wpAny_bind (wpAny_rule ?_)
  refine wpAny_bind (wpAny_setScan_of hkey ho hd hf hel ?_)
  cases hfi : List.findIdx? (fun e => (strKind P w).is k e.2) es.toList with
  | some j =>
    dsimp only
    obtain ⟨hj, pj, _⟩ := List.findIdx?_eq_some_iff_getElem.mp hfi
    have hSk : S k = true := (hm k).2 ((goodT_mem (P := P) (w := w) g k).2 ⟨es.toList[j], List.getElem_mem hj, pj⟩)
    refine wpAny_pure (wpAny_pure ?_)
    have q := hQ s.heap (Heap.SameBut.refl a s.heap) ⟨o, es, ep, t, ho, hex, hd, g, nd, fun i => by
      rw [Bool.or_eq_true, decide_eq_true_eq, ← hm i]
      exact ⟨fun z => z.elim id (fun e => e ▸ hSk), .inl⟩, hb, hf, by rw [if_pos hSk]; exact hn, hr, hl⟩
    rw [hSk] at q
    exact q
  | none =>
    dsimp only
    have hnk : k ∉ es.toList.map keyT := fun z => by
      obtain ⟨e, he, q⟩ := (goodT_mem (P := P) (w := w) g k).1 z
      have c := List.findIdx?_eq_none_iff.mp hfi e he
      rw [q] at c
      cases c
    have hSk : S k = false := by
      cases q : S k with
      | false => rfl
      | true => exact absurd ((hm k).1 q) hnk
    have hgw : ∀ (b : Bool) {s₁ : Shared} {Q' : Unit → Shared → Prop}, Q' () s₁ → wpAny (model P w) A (match b with | true => rule "set.scan.the-table-gave-way" | false => pure ()) Q' E s₁ :=
      fun b s₁ Q' q => by cases b <;> first | exact wpAny_pure q | exact wpAny_rule q
    have pm := layNew_perm t es ((strKind P w).hash k) (.str k tk)
    have hf1 := layNew_fits t es ((strKind P w).hash k) (.str k tk)
    have hr1 := layNew_ris t es ((strKind P w).hash k) (.str k tk) hr
    have hl1 := layNew_led t es ((strKind P w).hash k) (.str k tk)
    generalize layNew t es ((strKind P w).hash k) (.str k tk) = Z at pm hf1 hr1 hl1 ⊢
    obtain ⟨es1, t1, wasDummy, gave⟩ := Z
    dsimp only at pm hf1 hr1 hl1 ⊢
    rw [Array.toList_push] at pm
    have pc : es1.toList.Perm (((strKind P w).hash k, Value.str k tk) :: es.toList) := pm.trans (List.perm_append_singleton _ _)
    have pk : (es1.toList.map keyT).Perm (k :: es.toList.map keyT) := pc.map keyT
    have g1 : ∀ e ∈ es1.toList, GoodT w e := fun e he => by
      rcases List.mem_cons.mp (pc.mem_iff.mp he) with z | z
      · rw [z]; exact ⟨k, tk, rfl, rfl⟩
      · exact g e z
    have nd1 : (es1.toList.map keyT).Nodup := pk.nodup_iff.mpr (List.nodup_cons.mpr ⟨hnk, nd⟩)
    have m1 : ∀ i, (S i || decide (i = k)) = true ↔ i ∈ es1.toList.map keyT := fun i => by
      rw [Bool.or_eq_true, decide_eq_true_eq, hm i, pk.mem_iff, List.mem_cons]
      exact Or.comm
    have hsz : es1.size = n + 1 := by rw [← Array.length_toList, pc.length_eq, List.length_cons, Array.length_toList, hn]
    have hb1 : es1.size < scanBound := by rw [hsz]; exact room
    have hled : w.params.followText "set-order" = true ∨ t1.led = true := hl.imp id fun z => by rw [hl1]; exact z
    have fin : ∀ h', Heap.SameBut a s.heap h' → SetT w h' a (fun j => S j || decide (j = k)) es1.size → Q true { s with heap := h' } := fun h' sb r => by
      have q := hQ h' sb
      rw [hSk] at q
      rw [hsz] at r
      exact q r
    refine wpAny_bind (hgw _ ?_)
    split
    · refine wpAny_bind ?_
      rw [hashByValue_scannable 8 hsc]
      refine wpAny_pure ?_
      refine setT_add_tail ?_ ho hex hd g1 nd1 m1 hb1 ?_ ?_ ?_ ?_
      · intro b s₁ Q' q; cases b <;> first | exact wpAny_pure q | exact wpAny_rule q
      · first | (split <;> first | exact hf1 | exact SetTable.fits_plain_off hf1) | exact hf1
      · first | (split <;> exact hr1) | exact hr1
      · first | (split <;> exact hled) | exact hled
      · intro h' sb r; dsimp only; exact wpAny_pure (fin h' sb r)
    · refine wpAny_bind (wpAny_pure ?_)
      simp only [↓reduceIte]
      refine setT_add_tail ?_ ho hex hd g1 nd1 m1 hb1 hf1 hr1 hled ?_
      · intro b s₁ Q' q; cases b <;> first | exact wpAny_pure q | exact wpAny_rule q
      · intro h' sb r; dsimp only; exact wpAny_pure (fin h' sb r)

end
theorem setT_new_at {w : World} {h : Heap} {a : Addr} {ns : List Str} (ho : h.get? a = some { cls := .type "set", dict := none, data := .set #[] 0 (.fresh 0 0 (!w.params.followText "set-order")) }) : SetT w h a (fun j => decide (j ∈ ns.take 0)) 0 :=
  ⟨_, #[], 0, _, ho, ⟨rfl, rfl, rfl⟩, rfl, (fun e he => by simp at he), (by simp), (fun k => by simp), (by decide), (by rfl), rfl, List.Pairwise.nil, by
    show _ ∨ (!w.params.followText "set-order") = true
    cases w.params.followText "set-order"
    · exact .inr rfl
    · exact .inl rfl⟩
section
variable {P : Program} {w : World} {A : Around} {E : Value → Shared → Prop} {s : Shared}
theorem set_update_txts {I : Addr} {fp wr : List Addr} {G : Array GenState → Array GenState → Prop} {n : Nat} {Pv : Nat → Value → Prop} {St : Nat → Shared → Prop} {R : Result → Shared → Prop}
    (W : WalksS P w A.in1 I fp wr G n Pv St) (S : Addr) (hSf : S ∉ fp) (ns : List Str) (hn : n = ns.length) (hb : ns.length + 1 < scanBound) (hval : ∀ i v, Pv i v → ∃ k t, ns[i]? = some k ∧ v = .str k t) :
    ∀ (k i : Nat) (s : Shared), n - i = k → i ≤ n → St i s → (∃ c, c ≤ i ∧ SetT w s.heap S (fun j => decide (j ∈ ns.take i)) c) →
      (∀ s' c, Moved (S :: wr) G s s' → c ≤ n → SetT w s'.heap S (fun j => decide (j ∈ ns)) c → R (.ok (.ret .none)) s') →
      codeAny (model P w) A (.builtin "set.update.loop" ⟨[.ref S, .ref I], []⟩) R s := by
  have hSw : S ∉ wr := fun h => hSf (W.sub _ h)
  have hsub : ∀ b ∈ wr, b ∈ S :: wr := fun b hb => List.mem_cons_of_mem _ hb
  intro k
  induction k with
  | zero =>
    intro i s hk' hi hst ⟨c, hc, hS⟩ hR
    have hin : i = n := by omega
    subst hin
    refine codeAny_builtin F.entry_set_update_loop ?_
    rw [Around.under_plainId F.plain_set_update_loop _]
    show wpAny _ A.in1 (pyNext (.ref I) >>= _) _ _ s
    refine wpAny_bind (W.done s _ _ hst fun s' hm => ?_)
    show wpAny _ A.in1 (ret Value.none) _ _ s'
    have e : ns.take i = ns := List.take_of_length_le (by omega)
    rw [e] at hS
    exact wpAny_pure (hR s' c (hm.mono hsub) hc (hS.at fun o e => hm.heap S o hSw e))
  | succ k ih =>
    intro i s hk' hi hst ⟨c, hc, hS⟩ hR
    have hlt : i < n := by omega
    refine codeAny_builtin F.entry_set_update_loop ?_
    rw [Around.under_plainId F.plain_set_update_loop _]
    show wpAny _ A.in1 (pyNext (.ref I) >>= _) _ _ s
    refine wpAny_bind (W.item i s _ _ hlt hst fun v s' hP hst' hm => ?_)
    obtain ⟨z, t, hz, rfl⟩ := hval i v hP
    have hS' : SetT w s'.heap S (fun j => decide (j ∈ ns.take i)) c := hS.at fun o e => hm.heap S o hSw e
    show wpAny _ A.in1 (holding [Value.str z t] (setAdd S (.str z t)) >>= _) _ _ s'
    refine wpAny_bind (wpAny_holding ?_)
    unfold setAdd
    refine wpAny_holding ?_
    refine wpAny_bind ((strKind P w).pyHash (k := z) (strKind_is _ _ _ _) ?_)
    refine setT_add_hashed (s := { s' with toks := s'.toks + 1 }) hS' (by omega) fun h' hsb hS2 => ?_
    have hS3 : SetT w h' S (fun j => decide (j ∈ ns.take (i + 1))) (if decide (z ∈ ns.take i) = true then c else c + 1) := hS2.congr fun j => by
      rw [List.take_add_one, hz]
      simp [List.mem_append]
    have hc3 : (if decide (z ∈ ns.take i) = true then c else c + 1) ≤ i + 1 := by
      split <;> omega
    refine wpAny_pure ⟨plainId_quiet F.plain_set_update_loop _, ih (i + 1) _ (by omega) hlt (W.frame _ s' _ _ hst' (Nat.le_succ _) fun b hb o e => ?_) ⟨_, hc3, hS3⟩ fun s'' c2 hm'' hc'' hS'' => ?_⟩
    · rw [hsb.2 b (fun h : b = S => hSf (by rw [← h]; exact hb))]; exact e
    · refine hR s'' c2 (Moved.trans W.gtrans ((hm.mono hsub).then_heap (Nat.le_succ _) fun b o hb e => ?_) hm'') hc'' hS''
      rw [hsb.2 b (fun h : b = S => hb (by rw [h]; exact List.mem_cons_self))]; exact e

set_option maxRecDepth 100000 in
set_option maxHeartbeats 3200000 in
theorem call_set_tupT {l : Addr} {items : Array Value} (ns : List Str) {Q : Value → Shared → Prop} (hh : A.handled = none) (hl : s.heap.IsTuple l items) (hit : StrsAre items.toList ns) (hb : ns.length + 1 < scanBound)
    (h : ∀ (h' : Heap) (tk c : Nat), SetT w h' s.heap.objs.size (fun j => decide (j ∈ ns)) c → c ≤ ns.length → (∀ b o, s.heap.get? b = some o → h'.get? b = some o) → Q (.ref s.heap.objs.size) { s with heap := h', toks := tk }) :
    wpAny (model P w) A (call (.type "set") [.ref l]) Q E s := by
  have hisz : items.size = ns.length := by
    have q := StrsAre.length hit
    rw [Array.length_toList] at q
    exact q
  obtain ⟨c, tl, hmro⟩ := F.called_set.mro
  have hmade := F.called_set.made
  have hsub := F.called_set.sub
  refine wpAny_call (codeAny_of_tree ?_)
  show wpAny _ _ (callAny (.type "set") _) _ _ _
  refine wpAny_pure ⟨Code.quiet_builtin _ (by decide +kernel), codeAny_builtin F.entry_type_call ?_⟩
  rw [Around.under_plain (weight_type_call_type "set" [.ref l] []) rfl]
  have h1 := F.called_set.notType
  have h2 := F.called_set.canCreate
  have hct := F.typeCall_set_1 (.ref l)
  repeat (any_goals (first | assumption | wp_step))

  refine codeAny_mono (code_set_led1 (.ref l) (E := E) (Q₁ := fun obj s₁ => obj = .ref s.heap.objs.size ∧ s₁ = { s with heap := s.heap.push { cls := .type "set", dict := none, data := .set #[] 0 (.fresh 0 0 (!w.params.followText "set-order")) } }) ⟨rfl, rfl⟩) fun r s₁ hr => ?_
  cases r with
  | error e => exact hr
  | ok fl =>
    cases fl with
    | ret obj =>
      obtain ⟨rfl, rfl⟩ := hr
      have hS : (s.heap.push { cls := .type "set", dict := none, data := .set #[] 0 (.fresh 0 0 (!w.params.followText "set-order")) }).get? s.heap.objs.size = some { cls := .type "set", dict := none, data := .set #[] 0 (.fresh 0 0 (!w.params.followText "set-order")) } := Heap.get?_push_size _ rfl
      have hT : Shared.TypeIs { s with heap := s.heap.push { cls := .type "set", dict := none, data := .set #[] 0 (.fresh 0 0 (!w.params.followText "set-order")) } } (.ref s.heap.objs.size) "set" := ⟨_, hS, rfl⟩
      have hli := F.called_set.init.lookup
      have hbi := F.called_set.init.bind (.ref s.heap.objs.size)
      repeat (any_goals (first | assumption | wp_step))

      refine codeAny_mono (codeAny_call_builtin (R := wants (fun r s₂ => r = .none ∧ ∃ h' tk c, s₂ = { s with heap := h', toks := tk } ∧ SetT w h' s.heap.objs.size (fun j => decide (j ∈ ns)) c ∧ c ≤ ns.length ∧
          (∀ b o, s.heap.get? b = some o → h'.get? b = some o)) E) F.called_set.init.plain F.entry_set_init (check_set_init_1 hT ?_)) fun r₂ s₂ hr₂ => ?_
      · obtain ⟨ol, hol, hcl, nl, hdl⟩ := hl
        obtain ⟨ocls, odict, odata, oslots⟩ := ol
        simp only at hcl hdl
        subst hcl; subst hdl
        have hol' : (s.heap.push { cls := .type "set", dict := none, data := .set #[] 0 (.fresh 0 0 (!w.params.followText "set-order")) }).get? l = some { cls := .type "tuple", dict := odict, data := .seq items nl, slots := oslots } := Heap.get?_push_of_some _ hol
        have hsls := F.sub_tuple_set
        have hslf := F.sub_tuple_frozenset
        have hne : (Value.type "tuple" == Value.type "dict") = false := by decide
        have hl1 : (s.heap.push { cls := .type "set", dict := none, data := .set #[] 0 (.fresh 0 0 (!w.params.followText "set-order")) }).IsTuple l items := ⟨_, hol', rfl, nl, rfl⟩
        unfold Builtin.«set.__init__» noKeywords Builtin.Frozenset.updateFrom
        generalize hPI : pyIter = PI
        wp_walk
        subst hPI

        refine wpAny_pyIter_tuple hl1 ?_
        refine wpAny_bind (wpAny_runValue ?_)
        have hlS : l < s.heap.objs.size := Heap.lt_size hol
        have hh3 : A.in1.in1.in1.handled = none := by simp [hh]
        have hz1 : (s.heap.push { cls := .type "set", dict := none, data := .set #[] 0 (.fresh 0 0 (!w.params.followText "set-order")) }).objs.size = s.heap.objs.size + 1 := Heap.size_push ..
        have hneI : l ≠ (s.heap.push { cls := .type "set", dict := none, data := .set #[] 0 (.fresh 0 0 (!w.params.followText "set-order")) }).objs.size := by
          rw [Heap.size_push]; exact Nat.ne_of_lt (Nat.lt_succ_of_lt hlS)
        have hSf : s.heap.objs.size ∉ [(s.heap.push { cls := .type "set", dict := none, data := .set #[] 0 (.fresh 0 0 (!w.params.followText "set-order")) }).objs.size, l] := by
          rw [Heap.size_push]; simp only [List.mem_cons, List.mem_singleton, List.not_mem_nil, or_false, not_or]
          exact ⟨Nat.ne_of_lt (Nat.lt_succ_self _), Nat.ne_of_gt hlS⟩
        have hval : ∀ (i : Nat) (v : Value), items[i]? = some v → ∃ k t, ns[i]? = some k ∧ v = .str k t := fun i v hv => by
          have hi : i < ns.length := by rw [← hisz]; exact (Array.getElem?_eq_some_iff.mp hv).1
          obtain ⟨t, e⟩ := SS.strs_at hit i v (by rw [Array.getElem?_toList]; exact hv)
          refine ⟨ns[i], t, List.getElem?_eq_getElem hi, ?_⟩
          rw [e, List.getD_eq_getElem?_getD, List.getElem?_eq_getElem hi] <;> rfl
        refine set_update_txts ((Walks.tuple hh3 _ l hneI items).toS) s.heap.objs.size
          hSf ns hisz hb hval (items.size - 0) 0 _ (by omega) (Nat.zero_le _)
          ⟨⟨_, Heap.get?_push_size _ rfl, rfl, rfl⟩, (hl1.push _)⟩ ?hS0 ?hR
        case hS0 =>
          have hget : ((s.heap.push { cls := .type "set", dict := none, data := .set #[] 0 (.fresh 0 0 (!w.params.followText "set-order")) }).push { cls := .type "tuple_iterator", data := .fields #[.ref l, .int 0 0] }).get? s.heap.objs.size
              = some { cls := .type "set", dict := none, data := .set #[] 0 (.fresh 0 0 (!w.params.followText "set-order")) } := Heap.get?_push_of_some _ hS
          exact ⟨0, Nat.le_refl 0, setT_new_at hget⟩
        case hR =>
          intro s' c' hm hc' hS'
          obtain ⟨h', g2, d', tk', os'⟩ := s'
          have eg : g2 = s.gens := hm.gens
          have ed : d' = s.drawn := hm.drawn
          have eo : os' = s.os := hm.os
          subst eg; subst ed; subst eo
          show wpAny _ _ _ _ _ _
          refine wpAny_pure ?_
          show wpAny _ _ (ret Value.none) _ _ _
          rw [hisz] at hc'
          refine wpAny_pure ⟨rfl, h', tk', c', rfl, hS', hc', fun b o e => ?_⟩
          have hb0 : b < s.heap.objs.size := Heap.lt_size e
          have hb1 : b ≠ s.heap.objs.size := Nat.ne_of_lt hb0
          have hb2 : b ≠ (s.heap.push { cls := .type "set", dict := none, data := .set #[] 0 (.fresh 0 0 (!w.params.followText "set-order")) }).objs.size := by
            rw [Heap.size_push]; exact Nat.ne_of_lt (Nat.lt_succ_of_lt hb0)
          exact hm.heap b o (by simp only [List.mem_cons, List.mem_singleton, List.not_mem_nil, or_false, not_or]; exact ⟨hb1, hb2⟩) (Heap.get?_push_of_some _ (Heap.get?_push_of_some _ e))

      · cases r₂ with
        | error e => exact hr₂
        | ok fl₂ =>
          cases fl₂ with
          | ret r =>
            obtain ⟨rfl, h', tk, c', rfl, hS', hc', hk'⟩ := hr₂
            repeat (any_goals (first | assumption | wp_step))
            exact h _ _ _ hS' hc' hk'
          | _ => exact hr₂.elim
    | _ => exact hr.elim

end

end K0

/-! ## B2 -/
set_option maxRecDepth 100000
set_option maxHeartbeats 2000000
noncomputable section
namespace K0
open PySem PySem.Spec PyProof.Rows L2
section
variable {P : Program} {w : World} {A : Around} {E : Value → Shared → Prop} {s : Shared}
set_option maxHeartbeats 3200000 in
theorem call_set_listT {l : Addr} {items : Array Value} (ns : List Str) {Q : Value → Shared → Prop} (hh : A.handled = none) (hl : s.heap.IsList l items) (hit : StrsAre items.toList ns) (hb : ns.length + 1 < scanBound)
    (h : ∀ (h' : Heap) (tk c : Nat), SetT w h' s.heap.objs.size (fun j => decide (j ∈ ns)) c → c ≤ ns.length → (∀ b o, s.heap.get? b = some o → h'.get? b = some o) → Q (.ref s.heap.objs.size) { s with heap := h', toks := tk }) :
    wpAny (model P w) A (call (.type "set") [.ref l]) Q E s := by
  have hisz : items.size = ns.length := by
    have q := StrsAre.length hit
    rw [Array.length_toList] at q
    exact q
  obtain ⟨c, tl, hmro⟩ := F.called_set.mro
  have hmade := F.called_set.made
  have hsub := F.called_set.sub
  refine wpAny_call (codeAny_of_tree ?_)
  show wpAny _ _ (callAny (.type "set") _) _ _ _
  refine wpAny_pure ⟨Code.quiet_builtin _ (by decide +kernel), codeAny_builtin F.entry_type_call ?_⟩
  rw [Around.under_plain (weight_type_call_type "set" [.ref l] []) rfl]
  have h1 := F.called_set.notType
  have h2 := F.called_set.canCreate
  have hct := F.typeCall_set_1 (.ref l)
  repeat (any_goals (first | assumption | wp_step))

  refine codeAny_mono (code_set_led1 (.ref l) (E := E) (Q₁ := fun obj s₁ => obj = .ref s.heap.objs.size ∧ s₁ = { s with heap := s.heap.push { cls := .type "set", dict := none, data := .set #[] 0 (.fresh 0 0 (!w.params.followText "set-order")) } }) ⟨rfl, rfl⟩) fun r s₁ hr => ?_
  cases r with
  | error e => exact hr
  | ok fl =>
    cases fl with
    | ret obj =>
      obtain ⟨rfl, rfl⟩ := hr
      have hS : (s.heap.push { cls := .type "set", dict := none, data := .set #[] 0 (.fresh 0 0 (!w.params.followText "set-order")) }).get? s.heap.objs.size = some { cls := .type "set", dict := none, data := .set #[] 0 (.fresh 0 0 (!w.params.followText "set-order")) } := Heap.get?_push_size _ rfl
      have hT : Shared.TypeIs { s with heap := s.heap.push { cls := .type "set", dict := none, data := .set #[] 0 (.fresh 0 0 (!w.params.followText "set-order")) } } (.ref s.heap.objs.size) "set" := ⟨_, hS, rfl⟩
      have hli := F.called_set.init.lookup
      have hbi := F.called_set.init.bind (.ref s.heap.objs.size)
      repeat (any_goals (first | assumption | wp_step))

      refine codeAny_mono (codeAny_call_builtin (R := wants (fun r s₂ => r = .none ∧ ∃ h' tk c, s₂ = { s with heap := h', toks := tk } ∧ SetT w h' s.heap.objs.size (fun j => decide (j ∈ ns)) c ∧ c ≤ ns.length ∧
          (∀ b o, s.heap.get? b = some o → h'.get? b = some o)) E) F.called_set.init.plain F.entry_set_init (check_set_init_1 hT ?_)) fun r₂ s₂ hr₂ => ?_
      · obtain ⟨ol, hol, hcl, nl, hdl⟩ := hl
        obtain ⟨ocls, odict, odata, oslots⟩ := ol
        simp only at hcl hdl
        subst hcl; subst hdl
        have hol' : (s.heap.push { cls := .type "set", dict := none, data := .set #[] 0 (.fresh 0 0 (!w.params.followText "set-order")) }).get? l = some { cls := .type "list", dict := odict, data := .seq items nl, slots := oslots } := Heap.get?_push_of_some _ hol
        have hsls := F.sub_list_set
        have hslf := F.sub_list_frozenset
        have hne : (Value.type "list" == Value.type "dict") = false := by decide
        have hl1 : (s.heap.push { cls := .type "set", dict := none, data := .set #[] 0 (.fresh 0 0 (!w.params.followText "set-order")) }).IsList l items := ⟨_, hol', rfl, nl, rfl⟩
        unfold Builtin.«set.__init__» noKeywords Builtin.Frozenset.updateFrom
        generalize hPI : pyIter = PI
        wp_walk
        subst hPI

        refine wpAny_pyIter_list hl1 ?_
        refine wpAny_bind (wpAny_runValue ?_)
        have hlS : l < s.heap.objs.size := Heap.lt_size hol
        have hh3 : A.in1.in1.in1.handled = none := by simp [hh]
        have hz1 : (s.heap.push { cls := .type "set", dict := none, data := .set #[] 0 (.fresh 0 0 (!w.params.followText "set-order")) }).objs.size = s.heap.objs.size + 1 := Heap.size_push ..
        have hneI : l ≠ (s.heap.push { cls := .type "set", dict := none, data := .set #[] 0 (.fresh 0 0 (!w.params.followText "set-order")) }).objs.size := by
          rw [Heap.size_push]; exact Nat.ne_of_lt (Nat.lt_succ_of_lt hlS)
        have hSf : s.heap.objs.size ∉ [(s.heap.push { cls := .type "set", dict := none, data := .set #[] 0 (.fresh 0 0 (!w.params.followText "set-order")) }).objs.size, l] := by
          rw [Heap.size_push]; simp only [List.mem_cons, List.mem_singleton, List.not_mem_nil, or_false, not_or]
          exact ⟨Nat.ne_of_lt (Nat.lt_succ_self _), Nat.ne_of_gt hlS⟩
        have hval : ∀ (i : Nat) (v : Value), items[i]? = some v → ∃ k t, ns[i]? = some k ∧ v = .str k t := fun i v hv => by
          have hi : i < ns.length := by rw [← hisz]; exact (Array.getElem?_eq_some_iff.mp hv).1
          obtain ⟨t, e⟩ := SS.strs_at hit i v (by rw [Array.getElem?_toList]; exact hv)
          refine ⟨ns[i], t, List.getElem?_eq_getElem hi, ?_⟩
          rw [e, List.getD_eq_getElem?_getD, List.getElem?_eq_getElem hi] <;> rfl
        refine set_update_txts ((Walks.list hh3 _ l hneI items).toS) s.heap.objs.size
          hSf ns hisz hb hval (items.size - 0) 0 _ (by omega) (Nat.zero_le _)
          ⟨⟨_, Heap.get?_push_size _ rfl, rfl, rfl⟩, (hl1.push _)⟩ ?hS0 ?hR
        case hS0 =>
          have hget : ((s.heap.push { cls := .type "set", dict := none, data := .set #[] 0 (.fresh 0 0 (!w.params.followText "set-order")) }).push { cls := .type "list_iterator", data := .fields #[.ref l, .int 0 0] }).get? s.heap.objs.size
              = some { cls := .type "set", dict := none, data := .set #[] 0 (.fresh 0 0 (!w.params.followText "set-order")) } := Heap.get?_push_of_some _ hS
          exact ⟨0, Nat.le_refl 0, setT_new_at hget⟩
        case hR =>
          intro s' c' hm hc' hS'
          obtain ⟨h', g2, d', tk', os'⟩ := s'
          have eg : g2 = s.gens := hm.gens
          have ed : d' = s.drawn := hm.drawn
          have eo : os' = s.os := hm.os
          subst eg; subst ed; subst eo
          show wpAny _ _ _ _ _ _
          refine wpAny_pure ?_
          show wpAny _ _ (ret Value.none) _ _ _
          rw [hisz] at hc'
          refine wpAny_pure ⟨rfl, h', tk', c', rfl, hS', hc', fun b o e => ?_⟩
          have hb0 : b < s.heap.objs.size := Heap.lt_size e
          have hb1 : b ≠ s.heap.objs.size := Nat.ne_of_lt hb0
          have hb2 : b ≠ (s.heap.push { cls := .type "set", dict := none, data := .set #[] 0 (.fresh 0 0 (!w.params.followText "set-order")) }).objs.size := by
            rw [Heap.size_push]; exact Nat.ne_of_lt (Nat.lt_succ_of_lt hb0)
          exact hm.heap b o (by simp only [List.mem_cons, List.mem_singleton, List.not_mem_nil, or_false, not_or]; exact ⟨hb1, hb2⟩) (Heap.get?_push_of_some _ (Heap.get?_push_of_some _ e))

      · cases r₂ with
        | error e => exact hr₂
        | ok fl₂ =>
          cases fl₂ with
          | ret r =>
            obtain ⟨rfl, h', tk, c', rfl, hS', hc', hk'⟩ := hr₂
            repeat (any_goals (first | assumption | wp_step))
            exact h _ _ _ hS' hc' hk'
          | _ => exact hr₂.elim
    | _ => exact hr.elim

end
end K0

/-! ## B3 -/
set_option maxRecDepth 100000
set_option maxHeartbeats 2000000
noncomputable section
namespace K0
open PySem PySem.Spec PyProof.Rows L2
theorem txts_of : ∀ (l : List Value), (∀ v ∈ l, ∃ k tk, v = Value.str k tk) → StrsAre l (l.map strOf)
  | [], _ => .nil
  | v :: l, h => by
    obtain ⟨k, tk, rfl⟩ := h v List.mem_cons_self
    exact .cons k tk (txts_of l fun u hu => h u (List.mem_cons_of_mem _ hu))
section
variable {P : Program} {w : World} {A : Around} {E : Value → Shared → Prop} {s : Shared} {a : Addr}
theorem sorted_setT {S : Str → Bool} {n : Nat} {Q : Value → Shared → Prop} (R : SetT w s.heap a S n) (hh : A.handled = none) (h64 : n < 64)
    (hQ : ∀ s' p (out : Array Value) (c : Nat) (ns : List Str), (∀ b o, s.heap.get? b = some o → s'.heap.get? b = some o) → s'.gens = s.gens → s'.os = s.os → s.heap.objs.size ≤ p →
      s'.heap.get? p = some (seqObj "list" out c) → StrsAre out.toList ns → PyProof.Rows.sortedS ns = true → ns.Nodup → (∀ k, k ∈ ns ↔ S k = true) → ns.length = n → Q (.ref p) s') :
    wpAny (model P w) A (call (.builtin "sorted") [.ref a]) Q E s := by
  obtain ⟨o, es, ep, t, ho, hex, hd, g, nd, hm, hb, hf, hn, hr, hl⟩ := R
  refine Calls.call_function_entry kind_sorted plain_sorted entry_sorted (args_sorted1 _) ?_
  unfold Builtin.«sorted»
  refine wpAny_bind (m := checkCount "sorted" 1 1 _) (wpAny_pure ?_)
  refine wpAny_bind (collect_set (A := A.in1) hh ⟨o, ho, hex.1, hd⟩ hf hb hr hl fun s1 vs k1 hz g1 o1 pm => ?_)
  have hvl : vs.length = n := by rw [pm.length_eq, List.length_map, Array.length_toList]; exact hn
  have hI : StrsAre vs (vs.map strOf) := txts_of vs fun v hv => by
    obtain ⟨e, he, q⟩ := List.mem_map.mp (pm.mem_iff.mp hv)
    obtain ⟨k, tk, h1, _⟩ := g e he
    exact ⟨k, tk, by rw [← q]; exact h1⟩
  have pk : (vs.map strOf).Perm (es.toList.map keyT) := by
    have q := pm.map strOf
    rw [List.map_map] at q
    have e2 : es.toList.map (strOf ∘ fun x => x.2) = es.toList.map keyT := List.map_congr_left fun e he => by
      obtain ⟨k, tk, h1, _⟩ := g e he
      show strOf e.2 = keyT e
      unfold keyT
      rw [h1] <;> rfl
    exact q.trans (by rw [← e2])
  refine wpAny_bind (wpAny_newList ?_ (by rw [hvl, sizeLine_eq]; omega))
  have hoL : (s1.heap.push (seqObj "list" vs.toArray 0)).get? s1.heap.objs.size = some (seqObj "list" vs.toArray 0) := Heap.get?_push_size _ rfl
  refine wpAny_bind (wpAny_holding (wpAny_call_entry slot_list_sort ⟨_, hoL, rfl⟩ entry_list_sort (list_sort_treeK strKind_oneLt hoL hI.keysOf (fun v₁ v₂ rest e => keyKind_strs (by rw [← e]; exact hI)) (by rw [hvl]; exact h64) fun st' hp hs => ⟨_, rfl, ?_⟩) (args_list_sort _)))
  obtain ⟨ns', a1, a2, a3⟩ := sorted_out_str hI hp hs
  obtain ⟨c, hc⟩ := sortedHeap_at (vs := vs) (out := (arrOf st').map (·.2)) hoL
  have pn : ns'.Perm (es.toList.map keyT) := a2.trans pk
  refine wpAny_pure ⟨_, rfl, hQ _ s1.heap.objs.size _ c ns' (fun b u e => ?_) g1 o1 hz hc a1 a3 (pn.nodup_iff.mpr nd) (fun k => by rw [pn.mem_iff, ← hm k]) ?_⟩
  · have q := k1 b u e
    have hlt := Heap.lt_size q
    show (sortedHeap (s1.heap.push (seqObj "list" vs.toArray 0)) s1.heap.objs.size vs _).get? b = some u
    rw [sortedHeap_old (Nat.ne_of_lt hlt) (by rw [size_push']; exact Nat.lt_succ_of_lt hlt)]
    exact Heap.get?_push_of_some _ q
  · rw [pn.length_eq, List.length_map, Array.length_toList]; exact hn
end
/-! ### the rules: set(texts), len, sorted -/
def SetTO (w : World) (a : Addr) (S : Str → Bool) (n : Nat) : HO := .ext fun h => SetT w h a S n
section
variable {X : Cx}
theorem setT_at {w : World} {P : Program} {H : Hp} {h : Heap} {a : Addr} {S : Str → Bool} {n : Nat} (R : SetT w h a S n) : ObjOk P w H h a (SetTO w a S n) := by
  have ⟨o, _, _, _, ho, _⟩ := R
  exact ⟨R, ⟨o, ho⟩, fun h1 h2 p k => SetT.at p k⟩
theorem setT_get {pins : List (Addr × Obj)} {σ : L2.St} {H : Hp} {s : Shared} {a : Addr} {S : Str → Bool} {n : Nat} (I : Inv X pins σ H s) (ha : H a = some (SetTO X.w a S n)) : SetT X.w s.heap a S n := (I.hok a _ ha).1
/-- set(xs), xs a tuple or a list of texts -/
def rSetTx (K : PySem.W.Frag) (w : World) : List V → Hp → VK → Prop := fun vs H Q => ∃ (l : Addr) (xs : List Str), vs = [.ref l] ∧ (SqT K H l (xs.map V.str) ∨ SqL K H l (xs.map V.str)) ∧ xs.length ≤ 1000 ∧
  ∀ p n, n ≤ xs.length → H p = none → Q (.ref p) (upd H p (SetTO w p (fun j => decide (j ∈ xs)) n))
theorem cr_setTx (hc : X.calm = true) : CallR X (.type "set") (rSetTx X.K X.w) := by
  intro pins s σ H vs us Q I r h
  obtain ⟨l, xs, rfl, hs, hl, q⟩ := h
  rw [Vals.ref1 r]
  have hb : xs.length + 1 < scanBound := by unfold scanBound; omega
  have fin : ∀ (h' : Heap) (tk c : Nat), SetT X.w h' s.heap.objs.size (fun j => decide (j ∈ xs)) c → c ≤ xs.length → (∀ b o, s.heap.get? b = some o → h'.get? b = some o) →
      EP X pins σ Q (.ref s.heap.objs.size) { s with heap := h', toks := tk } := fun h' tk c R hc' k =>
    ⟨.ref _, upd H s.heap.objs.size (SetTO X.w s.heap.objs.size (fun j => decide (j ∈ xs)) c), I.laid (t' := tk) k (Nat.le_refl _) (setT_at R), rfl, q _ c hc' (I.hok.fresh (Nat.le_refl _))⟩
  rcases hs with hs | hs
  · obtain ⟨its, rv, ht, _⟩ := I.tuple hs
    exact call_set_tupT xs (I.ok.hd hc) ht (by simpa using rv.strs) hb fin
  · obtain ⟨its, rv, ht, _⟩ := I.list hs
    exact call_set_listT xs (I.ok.hd hc) ht.isList (by simpa using rv.strs) hb fin
/-- len(set) -/
theorem call_lenTx : CallR X (.builtin "len") (fun vs H Q => ∃ (a : Addr) (S : Str → Bool) (n : Nat), vs = [.ref a] ∧ H a = some (SetTO X.w a S n) ∧ n ≤ 1000 ∧ ((∃ L : List Str, L.Nodup ∧ (∀ k, k ∈ L ↔ S k = true) ∧ L.length = n) → Q (.int n) H)) := by
  intro pins s σ H vs us Q I r h
  obtain ⟨a, S, n, rfl, ha, hn, q⟩ := h
  rw [Vals.ref1 r]
  obtain ⟨o, es, ep, t, ho, hex, hd, g, nd, hm, hb, hf, hsz, _⟩ := setT_get I ha
  refine call_len_set ho hex hd hf (by omega) ⟨.int n, H, (I.tok _), ⟨_, by rw [hsz]⟩, q ⟨es.toList.map keyT, nd, fun k => (hm k).symm, ?_⟩⟩
  rw [List.length_map, Array.length_toList]
  exact hsz
/-- sorted(set), fewer than 64 -/
def rSortTx (w : World) : List V → Hp → VK → Prop := fun vs H Q => ∃ (a : Addr) (S : Str → Bool) (n : Nat), vs = [.ref a] ∧ H a = some (SetTO w a S n) ∧ n < 64 ∧
  ∀ (ns : List Str) (p : Addr), PyProof.Rows.sortedS ns = true → ns.Nodup → (∀ k, k ∈ ns ↔ S k = true) → ns.length = n → H p = none → Q (.ref p) (upd H p (.lst (ns.map V.str)))
theorem cr_sortTx (hc : X.calm = true) : CallR X (.builtin "sorted") (rSortTx X.w) := by
  intro pins s σ H vs us Q I r h
  obtain ⟨a, S, n, rfl, ha, h64, q⟩ := h
  have R := setT_get I ha
  rw [Vals.ref1 r]
  refine sorted_setT R (I.ok.hd hc) h64 fun s' p out c ns k g o hp hg hi hs hnd hm hl => ?_
  have hlen : (ns.map V.str).length ≤ sizeLine := by rw [List.length_map, hl, sizeLine_eq]; omega
  have hn : H p = none := I.hok.fresh hp
  have J : Inv X pins σ (upd H p (.lst (ns.map V.str))) { s with heap := s'.heap, gens := s'.gens, drawn := s'.drawn, toks := s'.toks } :=
    I.call (ch := []) (Un.laid k hp hn) (I.hok.laid k hp ⟨hlen, out.toList, c, vals_of_strs hi, hg⟩) (by rw [g]; exact I.bare) (fun _ z => nomatch z)
  have e : s' = { s with heap := s'.heap, gens := s'.gens, drawn := s'.drawn, toks := s'.toks } := by
    cases s'
    cases s
    cases o
    rfl
  rw [e]
  exact ⟨.ref p, _, J, rfl, q ns p hs hnd hm hl hn⟩
end
end K0

/-! ## B4 -/
set_option maxRecDepth 100000
set_option maxHeartbeats 2000000
noncomputable section
namespace K0
open PySem PySem.Spec PyProof.Rows L2
section
variable {P : Program} {w : World} {A : Around} {E : Value → Shared → Prop} {s : Shared} {T : String} {r d : Addr} {n : Nat} {Pv : Nat → Value → Prop} {OK : Heap → Prop}
/-- tuple(view) -/
theorem tuple_src {Q : Value → Shared → Prop} (K : PySem.W.KdlSrc P w T r d n Pv OK) (hT : s.TypeIs (.ref r) T) (hne : (Value.type T == Value.type "tuple") = false) (hh : A.handled = none) (hok : OK s.heap) (hn : n ≤ sizeLine)
    (h : ∀ (h' : Heap) (tk : Nat) (acc : Array Value), (∀ b o, s.heap.get? b = some o → h'.get? b = some o) → ItemsOf Pv acc n → Q (.ref h'.objs.size) { s with heap := h'.push { cls := .type "tuple", data := .seq acc }, toks := tk }) :
    wpAny (model P w) A (call (.type "tuple") [.ref r]) Q E s := by
  refine callType_codes (Q₁ := fun obj s₁ => s₁.TypeIs obj "tuple" ∧ Q obj s₁) F.called_tuple (F.typeCall_tuple_1 _) F.entry_object_init ?_ fun obj s₁ h₁ => ⟨h₁.1, F.args_object_init_2 obj _, object_init_meets F.called_tuple.init.lookup F.called_tuple.made (by decide) P w A.in1 _ s₁ ⟨h₁.1, rfl, h₁.2⟩⟩
  refine codeAny_of_tree ?_
  show wpAny _ A.in1.in1 (do checkBuiltinCall "tuple.__new__" ⟨[.type "tuple", .ref r], []⟩; again (.builtin "tuple.__new__" ⟨[.type "tuple", .ref r], []⟩)) _ _ s
  refine wpAny_bind (wpAny_of_eq (F.newCall_tuple_1 _) (wpAny_pure ⟨plainId_quiet F.plain_tuple_new _, codeAny_builtin F.entry_tuple_new ?_⟩))
  rw [Around.under_plainId F.plain_tuple_new _]
  have hsub := sub_tuple_self
  have hinit := init_tuple_lookup
  have hmh := madeHere_tuple
  wp_walk using wpAny_typeOf hT, PySem.W.kdu_collect K (by simpa using hh) hok hn
  intro h' tk acc hk hacc
  show wpAny _ _ (Builtin.Tuple.tupleExact acc.toList.toArray >>= fun v => ret v) _ _ _
  unfold Builtin.Tuple.tupleExact
  refine wpAny_bind (wpAny_newObj_type ?_ (by show acc.toList.toArray.size ≤ sizeLine; simp only [Array.toArray_toList]; rw [hacc.1]; exact hn))
  refine wpAny_pure ?_
  have e : acc.toList.toArray = acc := by simp
  rw [e]
  exact ⟨⟨_, Heap.get?_push_size _ rfl, rfl⟩, h h' tk acc hk hacc⟩
end
/-! ### d.values() -/
def ValO (p d : Addr) : HO := .ext fun h => h.IsValuesView p d
theorem valO_at {P : Program} {w : World} {H : Hp} {h : Heap} {p d : Addr} (e : h.IsValuesView p d) : ObjOk P w H h p (ValO p d) := by
  have ⟨o, ho, _⟩ := e
  refine ⟨e, ⟨o, ho⟩, fun h1 h2 q k => ?_⟩
  obtain ⟨o1, a1, a2⟩ := q
  exact ⟨o1, k _ a1, a2⟩
section
variable {X : Cx}
def rVals : V → List V → Hp → VK → Prop := fun x xs H Q => ∃ (d : Addr) (kvs : List (Key × V)), x = .ref d ∧ xs = [] ∧ H d = some (.dK kvs) ∧ ∀ p, H p = none → Q (.ref p) (upd H p (ValO p d))
theorem mt_dvals : MtR X "dict.values" rVals := by
  intro pins s σ H x xs v us Q I rx rxs h
  obtain ⟨d, kvs, rfl, rfl, hd, q⟩ := h
  cases rx
  cases rxs
  obtain ⟨hz, lo, vs, kv, hD⟩ := I.hok d _ hd
  exact call_meetsIn PySem.F.slot_dict_values hD.typeIs PySem.F.entry_dict_values (PySem.F.args_dict_values_1 _) (meets_dict_values (mixKind X.prog X.w) d lo)
    ⟨⟨vs, hD⟩, .ref _, upd H s.heap.objs.size (ValO s.heap.objs.size d), I.laid (t' := s.toks) (fun b u e => Heap.get?_push_of_some _ e) (Nat.le_refl _) (valO_at ⟨_, Heap.get?_push_size _ rfl, rfl, rfl⟩), rfl, q _ (I.hok.fresh (Nat.le_refl _))⟩
theorem vals_snd : ∀ {kvs : List (Key × V)} {vs : List (Key × Value)}, KV kvs vs → Vals (kvs.map (·.2)) (vs.map (·.2))
  | _, _, .nil => .nil
  | _, _, .cons r t => .cons r.2 (vals_snd t)
def rOfVals (mk : List V → HO) : List V → Hp → VK → Prop := fun xs H Q => ∃ (p d : Addr) (kvs : List (Key × V)), xs = [.ref p] ∧ H p = some (ValO p d) ∧ H d = some (.dK kvs) ∧ ∀ t, H t = none → Q (.ref t) (upd H t (mk (kvs.map (·.2))))
theorem call_tupleVals (hc : X.calm = true) : CallR X (.type "tuple") (rOfVals .tup) := by
  intro pins s σ H xs us Q I r h
  obtain ⟨p, d, kvs, rfl, hp, hd, q⟩ := h
  rw [Vals.ref1 r]
  obtain ⟨hz, lo, vs, kv, hD⟩ := I.hok d _ hd
  have hv : s.heap.IsValuesView p d := (I.hok p _ hp).1
  obtain ⟨ep, hat⟩ := hD.dictAt
  have lk : kvs.length = vs.length := Paired.length kv
  refine tuple_src (PySem.W.kdl_values (knd := mixKind X.prog X.w) (kvs := vs) (ep := ep)) hv.typeIs (by decide) (I.ok.hd hc) ⟨hv, hat⟩ (by omega) fun h' tk acc hk hacc => ?_
  have e : acc.toList = vs.map (·.2) := PySem.W.kdl_vals_eq acc.toList (by rw [Array.length_toList]; exact hacc.1) fun j v e => hacc.2 j v (by rw [← Array.getElem?_toList]; exact e)
  have I1 : Inv X pins σ H { s with heap := h', toks := tk } := I.kept hk
  exact ⟨.ref _, upd H h'.objs.size (.tup (kvs.map (·.2))), I1.laid (t' := tk) (fun b u e => Heap.get?_push_of_some _ e) (Nat.le_refl _) ⟨by rw [List.length_map]; omega, acc.toList, by rw [e]; exact vals_snd kv, ⟨_, Heap.get?_push_size _ rfl, rfl, _, rfl⟩⟩, rfl, q _ (I1.hok.fresh (Nat.le_refl _))⟩
theorem call_listVals (hc : X.calm = true) : CallR X (.type "list") (rOfVals .lst) := by
  intro pins s σ H xs us Q I r h
  obtain ⟨p, d, kvs, rfl, hp, hd, q⟩ := h
  rw [Vals.ref1 r]
  obtain ⟨hz, lo, vs, kv, hD⟩ := I.hok d _ hd
  have hv : s.heap.IsValuesView p d := (I.hok p _ hp).1
  obtain ⟨ep, hat⟩ := hD.dictAt
  have lk : kvs.length = vs.length := Paired.length kv
  refine PySem.W.kdl_call (PySem.W.kdl_values (knd := mixKind X.prog X.w) (kvs := vs) (ep := ep)) (I.ok.hd hc) ⟨hv, hat⟩ (by omega) fun h' tk acc c hk hS hacc => ?_
  have e : acc.toList = vs.map (·.2) := PySem.W.kdl_vals_eq acc.toList (by rw [Array.length_toList]; exact hacc.1) fun j v e => hacc.2 j v (by rw [← Array.getElem?_toList]; exact e)
  exact ⟨.ref _, upd H s.heap.objs.size (.lst (kvs.map (·.2))), I.laid (t' := tk) hk (Nat.le_refl _) ⟨by rw [List.length_map]; omega, acc.toList, c, by rw [e]; exact vals_snd kv, by rw [Array.toArray_toList]; exact hS⟩, rfl, q _ (I.hok.fresh (Nat.le_refl _))⟩
end
end K0

/-! ## A2 -/
set_option maxRecDepth 100000
set_option maxHeartbeats 2000000
namespace K0
open PySem L2
/-! ### comprehensions whose element leaves all that is tracked -/
theorem Same.rfl' {H : Hp} : Same H H := fun _ _ h => h
theorem Same.tr {A B C : Hp} (a : Same A B) (b : Same B C) : Same A C := fun c o h => b c o (a c o h)
theorem Same.new {H : Hp} {D : Addr} (o : HO) (h : H D = none) : Same H (upd H D o) := fun b u q => by rw [upd_ne (ne_of_none q h)]; exact q
theorem lc_pure {J : It} {n : Nat} {G : Hp → Prop} {Y : Nat → Hp → V → Hp → Prop} (w : Walk J n G Y) {g : TG} {te : TE} {vs : List Nat} {σ : St} {H1 : Hp} {D : Addr} {Qd : Hp → Prop} (f : Nat → V)
    (hn : n < sizeLine) (hD : H1 D = none) (hG : ∀ H, Same H1 H → G H)
    (hs : ∀ i x H H', i < n → Same H1 H → Y i H x H' → g x (wipe σ vs) H' fun σ2 H2 => wipe σ2 vs = wipe σ vs ∧ ∀ (Q : V → Hp → Prop), (∀ H4, Same H H4 → Q (f i) H4) → te σ2 H2 Q)
    (gm : ∀ x σ H (P R : St → Hp → Prop), (∀ σ2 H2, P σ2 H2 → R σ2 H2) → g x σ H P → g x σ H R)
    (hd : ∀ H, Same H1 H → H D = some (.lst ((List.range n).map f)) → Qd H) :
    ∃ W : Nat → Nat → Hp → Prop, (∃ m, W 0 m (upd H1 D (.lst []))) ∧ ∀ i m H, W i m H →
      (J.stop i H ∧ Qd H) ∨ (J.go i H ∧ ∃ Nx : Hp → Prop, (∀ H', Nx H' → ∃ m', m' < m ∧ W (i + 1) m' H') ∧ ∀ x H', J.yld i H x H' → g x (wipe σ vs) H' fun σ2 H2 => wipe σ2 vs = wipe σ vs ∧ tYes σ2 H2 fun b H3 =>
        if b = true then te σ2 H3 fun y H4 => ∃ acc, H4 D = some (.lst acc) ∧ acc.length < sizeLine ∧ Nx (upd H4 D (.lst (acc ++ [y]))) else Nx H3) := by
  refine lc_it w (fun i H => Same H1 H ∧ H D = some (.lst ((List.range i).map f))) ⟨Same.new _ hD, upd_same⟩ (fun i H _ p => hG H p.1) (fun i x H H' hi p y => ?_) (fun H p => hd H p.1 p.2)
  refine gm _ _ _ _ _ (fun σ2 H2 q => ⟨q.1, ?_⟩) (hs i x H H' hi p.1 y)
  dsimp only [tYes]
  rw [if_pos rfl]
  refine q.2 _ fun H4 s4 => ⟨_, s4 _ _ p.2, ?_, ?_, ?_⟩
  · rw [List.length_map, List.length_range]
    exact Nat.lt_trans hi hn
  · exact fun b o e => by rw [upd_ne (ne_of_none e hD)]; exact s4 _ _ (p.1 _ _ e)
  · rw [upd_same, List.range_succ, List.map_append]
    rfl
theorem gName_mono {i : Nat} : ∀ x σ H (P R : St → Hp → Prop), (∀ σ2 H2, P σ2 H2 → R σ2 H2) → gName i x σ H P → gName i x σ H R := fun _ _ _ _ _ h p => h _ _ p
/-! ### kinds -/
def isIntT : V → Bool
  | .int _ => true
  | .bl _ => true
  | _ => false
def isStrV : V → Bool
  | .str _ => true
  | _ => false
def isTupV (H : Hp) : V → Bool
  | .ref a => match H a with
    | some (.tup _) => true
    | _ => false
  | _ => false
def isDctV (H : Hp) : V → Bool
  | .ref a => match H a with
    | some (.dK _) => true
    | _ => false
  | _ => false
section
variable {K : PySem.W.Frag} {H : Hp} {v : V}
theorem Da.kStr (d : Da H v) : ∃ t, TyX K H v t ∧ PySem.W.kitOne K t (.type "str") = some (isStrV v) := by
  cases d with
  | non => exact ⟨_, .base .non, kit_ty (by decide +kernel)⟩
  | bl b => exact ⟨_, .base (.bl b), kit_ty (by show kitB "bool" "str" = some false; decide +kernel)⟩
  | int b => exact ⟨_, .base (.int b), kit_ty (by show kitB "int" "str" = some false; decide +kernel)⟩
  | str b => exact ⟨_, .base (.str b), kit_ty (by show kitB "str" "str" = some true; decide +kernel)⟩
  | lst b => exact ⟨_, .base (.lst b), kit_ty (by show kitB "list" "str" = some false; decide +kernel)⟩
  | tup b => exact ⟨_, .base (.tup b), kit_ty (by show kitB "tuple" "str" = some false; decide +kernel)⟩
  | dK b => exact ⟨_, .base (.dK b), kit_ty (by show kitB "dict" "str" = some false; decide +kernel)⟩
theorem Da.kTup (d : Da H v) : ∃ t, TyX K H v t ∧ PySem.W.kitOne K t (.type "tuple") = some (isTupV H v) := by
  cases d with
  | non => exact ⟨_, .base .non, kit_ty (by show kitB "NoneType" "tuple" = some false; decide +kernel)⟩
  | bl b => exact ⟨_, .base (.bl b), kit_ty (by show kitB "bool" "tuple" = some false; decide +kernel)⟩
  | int b => exact ⟨_, .base (.int b), kit_ty (by show kitB "int" "tuple" = some false; decide +kernel)⟩
  | str b => exact ⟨_, .base (.str b), kit_ty (by show kitB "str" "tuple" = some false; decide +kernel)⟩
  | lst b => exact ⟨_, .base (.lst b), by simp only [isTupV, b]; exact kit_ty (by decide +kernel)⟩
  | tup b => exact ⟨_, .base (.tup b), by simp only [isTupV, b]; exact kit_ty (by decide +kernel)⟩
  | dK b => exact ⟨_, .base (.dK b), by simp only [isTupV, b]; exact kit_ty (by decide +kernel)⟩
theorem Da.kDct (d : Da H v) : ∃ t, TyX K H v t ∧ PySem.W.kitOne K t (.type "dict") = some (isDctV H v) := by
  cases d with
  | non => exact ⟨_, .base .non, kit_ty (by show kitB "NoneType" "dict" = some false; decide +kernel)⟩
  | bl b => exact ⟨_, .base (.bl b), kit_ty (by show kitB "bool" "dict" = some false; decide +kernel)⟩
  | int b => exact ⟨_, .base (.int b), kit_ty (by show kitB "int" "dict" = some false; decide +kernel)⟩
  | str b => exact ⟨_, .base (.str b), kit_ty (by show kitB "str" "dict" = some false; decide +kernel)⟩
  | lst b => exact ⟨_, .base (.lst b), by simp only [isDctV, b]; exact kit_ty (by decide +kernel)⟩
  | tup b => exact ⟨_, .base (.tup b), by simp only [isDctV, b]; exact kit_ty (by decide +kernel)⟩
  | dK b => exact ⟨_, .base (.dK b), by simp only [isDctV, b]; exact kit_ty (by decide +kernel)⟩
end
/-! ### is_count, is_width -/
def isC : V → Bool
  | .int i => isI (.int i) && decide (0 ≤ i)
  | _ => false
def isW : V → Bool
  | .int i => isI (.int i) && (decide (1 ≤ i) && decide (i ≤ 8))
  | _ => false
theorem isI_int {v : V} (h : isI v = true) : ∃ i, v = .int i := by
  cases v with
  | int i => exact ⟨i, rfl⟩
  | _ => cases h
def spIsCnt : Sp := fun vs H Q _ => ∃ v, vs = [v] ∧ Da H v ∧ Q (.bl (isC v)) H
def spIsWid : Sp := fun vs H Q _ => ∃ v, vs = [v] ∧ Da H v ∧ Q (.bl (isW v)) H
theorem isC_no {v : V} (h : isI v = false) : isC v = false := by
  cases v with
  | int i => show (isI (.int i) && _) = false; rw [h]; rfl
  | _ => rfl
theorem isW_no {v : V} (h : isI v = false) : isW v = false := by
  cases v with
  | int i => show (isI (.int i) && _) = false; rw [h]; rfl
  | _ => rfl
structure T2 (K : PySem.W.Frag) (mg : Str → Option Value) (fI fC fW : Addr) : Prop extends T1 K mg where
  gI : mg "is_integer" = some (.ref fI)
  kI : PySem.W.keepIn K (.ref fI) = true
  gC : mg "is_count" = some (.ref fC)
  kC : PySem.W.keepIn K (.ref fC) = true
  gW : mg "is_width" = some (.ref fW)
  kW : PySem.W.keepIn K (.ref fW) = true
  wid : ∃ t, mg "MAX_WIDTH" = some (.int 8 t)
  let_ : ∃ t, mg "MAX_LETTERS" = some (.int 8 t)
  len : mg "len" = none
  str : mg "str" = none
  tup : mg "tuple" = none
  dct : mg "dict" = none
  all : mg "all" = none
  any : mg "any" = none
section
variable {P : Program} {w : World} {K : PySem.W.Frag} {mg : Str → Option Value} {base : Heap} {fI fC fW : Addr} {fdI fdC fdW : FuncData}
theorem scIsCnt : FnScope ["value"] ["value"] (defScope sIsCnt) := ⟨rfl, rfl, rfl, by decide +kernel, rfl, by decide +kernel, by decide +kernel⟩
theorem ok_isCnt {f : Addr} {fd : FuncData} (F : Fun K "is_count" "is_count" sIsCnt f fd) (T : T2 K mg fI fC fW) (G : FnOk P w K mg base CX0 1 fI fdI ["value"] spIsInt) (bI : Binds K fdI ["value"] []) : FnOk P w K mg base CX0 2 f fd ["value"] spIsCnt := by
  refine F.ok scIsCnt (fun vs H Q E h => ?_) (fun cdv A outer s H vs Q E hr h => ?_)
  · obtain ⟨v, rfl, _⟩ := h
    rfl
  · obtain ⟨v, rfl, d, k⟩ := h
    refine ⟨_, pss_one (ps_ret (pe_and (pe_call G hr rfl T.gI T.kI bI .nil pass0 (pa_cons (pv 0) pa_nil)) (pe_one (pe_cmpR op_ge (pv 0) pe_int (nomark _))))), ?_⟩
    refine ⟨_, rfl, v, rfl, d, isI v, rfl, ?_⟩
    by_cases c : isI v = true
    · obtain ⟨i, rfl⟩ := isI_int c
      refine if_pos_of c ⟨_, rfl, _, _, rfl, rfl, ?_⟩
      have e : isC (.int i) = decide (0 ≤ i) := by show (isI (.int i) && _) = _; rw [c]; rfl
      rw [e] at k
      exact k
    · have c' := Bool.eq_false_iff.mpr c
      refine if_neg_of c' ?_
      rw [isC_no c'] at k
      exact k
theorem scIsWid : FnScope ["value"] ["value"] (defScope sIsWid) := ⟨rfl, rfl, rfl, by decide +kernel, rfl, by decide +kernel, by decide +kernel⟩
theorem ok_isWid {f : Addr} {fd : FuncData} (F : Fun K "is_width" "is_width" sIsWid f fd) (T : T2 K mg fI fC fW) (G : FnOk P w K mg base CX0 1 fI fdI ["value"] spIsInt) (bI : Binds K fdI ["value"] []) : FnOk P w K mg base CX0 2 f fd ["value"] spIsWid := by
  refine F.ok scIsWid (fun vs H Q E h => ?_) (fun cdv A outer s H vs Q E hr h => ?_)
  · obtain ⟨v, rfl, _⟩ := h
    rfl
  · obtain ⟨v, rfl, d, k⟩ := h
    obtain ⟨t, hw⟩ := T.wid
    refine ⟨_, pss_one (ps_ret (pe_and (pe_call G hr rfl T.gI T.kI bI .nil pass0 (pa_cons (pv 0) pa_nil)) (pe_one (pe_chain op_le op_le pe_int (pv 0) (pe_glob (v := .int 8) (by rfl) hw ⟨t, rfl⟩))))), ?_⟩
    refine ⟨_, rfl, v, rfl, d, isI v, rfl, ?_⟩
    by_cases c : isI v = true
    · obtain ⟨i, rfl⟩ := isI_int c
      have e : isW (.int i) = (decide (1 ≤ i) && decide (i ≤ 8)) := by show (isI (.int i) && _) = _; rw [c]; rfl
      rw [e] at k
      refine if_pos_of c ⟨_, rfl, _, _, rfl, rfl, _, rfl, ?_⟩
      by_cases c1 : 1 ≤ i
      · rw [decide_eq_true c1] at k
        exact if_pos_of (decide_eq_true c1) ⟨_, _, rfl, rfl, k⟩
      · rw [decide_eq_false c1] at k
        exact if_neg_of (decide_eq_false c1) k
    · have c' := Bool.eq_false_iff.mpr c
      refine if_neg_of c' ?_
      rw [isW_no c'] at k
      exact k
end
end K0

/-! ## A3 -/
set_option maxRecDepth 100000
set_option maxHeartbeats 2000000
namespace K0
open PySem L2
abbrev sIsNam : Stmt := top 12
abbrev sAreNam : Stmt := top 998
abbrev sIsRow : Stmt := top 13
def lowC (c : Nat) : Bool := decide (97 ≤ c) && decide (c ≤ 122)
def nameS (z : Str) : Bool := (decide (1 ≤ z.length) && decide (z.length ≤ 8)) && z.cps.toList.all lowC
def nameV : V → Bool
  | .str z => nameS z
  | _ => false
/-- texts are short -/
def Sz : V → Prop
  | .str z => z.length ≤ 1000
  | _ => True
theorem lt_a (c : Nat) : decide ([c] < ("a" : Str).cps.toList) = decide (c < 97) := by
  show decide ([c] < [97]) = _
  by_cases h : c < 97 <;> simp [List.cons_lt_cons_iff, h]
theorem lt_z (c : Nat) : decide (("z" : Str).cps.toList < [c]) = decide (122 < c) := by
  show decide ([122] < [c]) = _
  by_cases h : 122 < c <;> simp [List.cons_lt_cons_iff, h]
theorem all_range (z : Str) (p : Nat → Bool) : ((List.range z.cps.size).map fun i => p (z.cps.getD i 0)).all id = z.cps.toList.all p := by
  have e : (List.range z.cps.size).map (fun i => z.cps.getD i 0) = z.cps.toList := by
    apply List.ext_getElem
    · simp
    · intro i h1 h2
      simp at h1
      simp [h1]
  rw [← e, List.all_map, List.all_map]
  rfl
def spIsNam : Sp := fun vs H Q _ => ∃ v, vs = [v] ∧ Da H v ∧ Sz v ∧ ∀ H', Same H H' → Q (.bl (nameV v)) H'
section
variable {P : Program} {w : World} {K : PySem.W.Frag} {mg : Str → Option Value} {base : Heap} {fI fC fW : Addr} {fdI fdC fdW : FuncData}
theorem scIsNam : FnScope ["value", "letter"] ["value"] (defScope sIsNam) := ⟨rfl, rfl, rfl, by decide +kernel, rfl, by decide +kernel, by decide +kernel⟩
theorem ok_isNam {f : Addr} {fd : FuncData} (F : Fun K "is_name" "is_name" sIsNam f fd) (T : T2 K mg fI fC fW) : FnOk P w K mg base CX0 1 f fd ["value"] spIsNam := by
  refine F.ok scIsNam (fun vs H Q E h => ?_) (fun cdv A outer s H vs Q E hr h => ?_)
  · obtain ⟨v, rfl, _⟩ := h
    rfl
  · obtain ⟨v, rfl, d, sz, k⟩ := h
    obtain ⟨tl, hl⟩ := T.let_
    refine ⟨_, pss_cons (ps_if (pw_or (pt_not (pt_val (pe_callB call_isi (by rfl) T.isi (by decide +kernel) (pa_cons (pv 0) (pa_cons (pe_bltn (v := .ty "str") (by rfl) T.str (by decide +kernel) rfl) pa_nil)))))
        (pw_or1 (pt_not (pt_chain op_le op_le pe_int (pe_callB call_len_str (by rfl) T.len PySem.boot_len (pa_cons (pv 0) pa_nil)) (pe_glob (v := .int 8) (by rfl) hl ⟨tl, rfl⟩))))).pt
        (pss_one (ps_ret pe_bl)) pss_nil)
      (pss_one (ps_ret (pe_callB (cr_all rfl) (by rfl) T.all (by decide +kernel) (pa_cons (pe_lc (own := [("letter", 1)]) (g := gName 1) (tt := tYes) rfl scIsNam.nd (pi_str (pv 0))
        (blkOk_by (own := [("letter", 1)]) (N := ["value", "letter"]) (sc := defScope sIsNam) (by decide +kernel)) (fun _ _ _ _ _ => pg_name (i := 1) scIsNam.nd rfl (Or.inl rfl)) (fun _ _ _ _ _ => pts_nil)
        (fun _ _ _ _ _ => pe_chain op_le_str op_le_str pe_str (pv 1) pe_str)) pa_nil)))), ?_⟩
    obtain ⟨t, ty, kt⟩ := d.kStr (K := K)
    refine ⟨_, rfl, _, _, t, _, isStrV v, rfl, .ty _, ty, kt, isStrV v, rfl, ?_⟩
    by_cases c : isStrV v = true
    · obtain ⟨z, rfl⟩ : ∃ z, v = .str z := by
        cases v with
        | str z => exact ⟨z, rfl⟩
        | _ => cases c
      have hz : z.length ≤ 1000 := sz
      have e : nameV (.str z) = ((decide (1 ≤ z.length) && decide (z.length ≤ 8)) && z.cps.toList.all lowC) := rfl
      refine if_neg_of (by rw [c]; rfl) ⟨_, rfl, z, rfl, Nat.le_of_lt (small1000 hz), _, _, rfl, rfl, _, rfl, ?_⟩
      by_cases c1 : (1 : Int) ≤ z.length
      · have c1' : decide (1 ≤ z.length) = true := decide_eq_true (by omega)
        refine if_pos_of (decide_eq_true c1) ⟨_, _, rfl, rfl, _, rfl, ?_⟩
        by_cases c2 : (z.length : Int) ≤ 8
        · have c2' : decide (z.length ≤ 8) = true := decide_eq_true (by omega)
          rw [decide_eq_true c2]
          refine if_neg_of rfl ⟨_, rfl, _, rfl, fun D hD => lc_pure (f := fun i => .bl (lowC (z.cps.getD i 0))) walk_str ?_ hD (fun _ _ => True.intro) ?_ gName_mono ?_⟩
          · show z.length < sizeLine
            exact small1000 hz
          · rintro i x H2 H3 hi s2 ⟨rfl, c, hc, rfl⟩
            refine ⟨rfl, fun Q' q => ⟨_, rfl, _, _, rfl, rfl, _, rfl, ?_⟩⟩
            have ec : z.cps.getD i 0 = c := by simp [hc]
            have q0 := q _ (Same.rfl' (H := H3))
            rw [ec] at q0
            show if (!decide ([c] < ("a" : Str).cps.toList)) = true then _ else _
            rw [lt_a]
            by_cases c3 : c < 97
            · refine if_neg_of (by rw [decide_eq_true c3]; rfl) ?_
              have e3 : lowC c = false := by simp [lowC]; omega
              rw [e3] at q0
              exact q0
            · refine if_pos_of (by rw [decide_eq_false c3]; rfl) ⟨_, _, rfl, rfl, ?_⟩
              have e3 : lowC c = !decide (("z" : Str).cps.toList < [c]) := by
                rw [lt_z]
                simp [lowC]
                by_cases h : 122 < c <;> simp [h] <;> omega
              rw [e3] at q0
              exact q0
          · intro H2 s2 hD2
            refine ⟨D, (List.range z.cps.size).map fun i => lowC (z.cps.getD i 0), rfl, ?_, ?_⟩
            · rw [List.map_map]
              exact SqL.of hD2
            · rw [all_range]
              have k' := k H2 s2
              rw [e, c1', c2'] at k'
              exact k'
        · rw [decide_eq_false c2]
          refine if_pos_of rfl ?_
          have k' := k H Same.rfl'
          have c2' : decide (z.length ≤ 8) = false := decide_eq_false (by omega)
          rw [e, c2', Bool.and_false] at k'
          exact k'
      · have c1' : decide (1 ≤ z.length) = false := decide_eq_false (by omega)
        refine if_neg_of (decide_eq_false c1) ⟨_, rfl, ?_⟩
        refine if_pos_of rfl ?_
        have k' := k H Same.rfl'
        rw [e, c1'] at k'
        exact k'
    · have c' := Bool.eq_false_iff.mpr c
      refine if_pos_of (by rw [c']; rfl) ?_
      refine if_pos_of rfl ?_
      have e : nameV v = false := by
        cases v with
        | str z => cases c'
        | _ => rfl
      have k' := k H Same.rfl'
      rw [e] at k'
      exact k'
end
end K0

/-! ## A4 -/
set_option maxRecDepth 100000
set_option maxHeartbeats 2000000
namespace K0
open PySem L2
theorem Da.same {H H' : Hp} {v : V} (d : Da H v) (s : Same H H') : Da H' v := by
  cases d with
  | non => exact .non
  | bl b => exact .bl b
  | int b => exact .int b
  | str b => exact .str b
  | lst b => exact .lst (s _ _ b)
  | tup b => exact .tup (s _ _ b)
  | dK b => exact .dK (s _ _ b)
/-- a tuple's items are data, and few -/
def Tu (H : Hp) (v : V) : Prop := ∀ a xs, v = .ref a → H a = some (.tup xs) → xs.length ≤ 1000 ∧ ∀ x ∈ xs, Da H x ∧ Sz x
def onTup (H : Hp) (p : List V → Bool) : V → Bool
  | .ref a => match H a with
    | some (.tup xs) => p xs
    | _ => false
  | _ => false
theorem onTup_no {H : Hp} {p : List V → Bool} {v : V} (h : isTupV H v = false) : onTup H p v = false := by
  cases v with
  | ref a =>
    simp only [isTupV] at h
    simp only [onTup]
    cases e : H a with
    | none => rfl
    | some o => cases o <;> first | rfl | (simp [e] at h)
  | _ => rfl
theorem isTup_at {H : Hp} {v : V} (h : isTupV H v = true) : ∃ a xs, v = .ref a ∧ H a = some (.tup xs) := by
  cases v with
  | ref a =>
    simp only [isTupV] at h
    cases e : H a with
    | none => simp [e] at h
    | some o => cases o <;> first | exact ⟨a, _, rfl, e⟩ | (simp [e] at h)
  | _ => cases h
theorem all_list (xs : List V) (p : V → Bool) : ((List.range xs.length).map fun i => p (xs.getD i .non)).all id = xs.all p := by
  have e : (List.range xs.length).map (fun i => xs.getD i .non) = xs := by
    apply List.ext_getElem
    · simp
    · intro i h1 h2
      simp at h1
      simp [h1]
  have e2 : xs.all p = ((List.range xs.length).map (fun i => xs.getD i .non)).all p := by rw [e]
  rw [e2, List.all_map, List.all_map]
  rfl
def spAreNam : Sp := fun vs H Q _ => ∃ v, vs = [v] ∧ Da H v ∧ Tu H v ∧ ∀ H', Same H H' → Q (.bl (onTup H (fun xs => xs.all nameV) v)) H'
structure T3 (K : PySem.W.Frag) (mg : Str → Option Value) (fI fC fW fN : Addr) : Prop extends T2 K mg fI fC fW where
  gN : mg "is_name" = some (.ref fN)
  kN : PySem.W.keepIn K (.ref fN) = true
end K0

/-! ## A5 -/
set_option maxRecDepth 100000
set_option maxHeartbeats 2000000
namespace K0
open PySem L2
def rowL (xs : List V) : Bool := isW (.int xs.length) && xs.all isC
def spIsRow : Sp := fun vs H Q _ => ∃ v, vs = [v] ∧ Da H v ∧ Tu H v ∧ ∀ H', Same H H' → Q (.bl (onTup H rowL v)) H'
section
variable {P : Program} {w : World} {K : PySem.W.Frag} {mg : Str → Option Value} {base : Heap} {fI fC fW fN : Addr} {fdI fdC fdW fdN : FuncData}
theorem scIsRow : FnScope ["value", "number"] ["value"] (defScope sIsRow) := ⟨rfl, rfl, rfl, by decide +kernel, rfl, by decide +kernel, by decide +kernel⟩
theorem ok_isRow {f : Addr} {fd : FuncData} (F : Fun K "is_row" "is_row" sIsRow f fd) (T : T3 K mg fI fC fW fN) (GW : FnOk P w K mg base CX0 2 fW fdW ["value"] spIsWid) (bW : Binds K fdW ["value"] [])
    (GC : FnOk P w K mg base CX0 2 fC fdC ["value"] spIsCnt) (bC : Binds K fdC ["value"] []) : FnOk P w K mg base CX0 3 f fd ["value"] spIsRow := by
  refine F.ok scIsRow (fun vs H Q E h => ?_) (fun cdv A outer s H vs Q E hr h => ?_)
  · obtain ⟨v, rfl, _⟩ := h
    rfl
  · obtain ⟨v, rfl, d, tu, k⟩ := h
    refine ⟨_, pss_one (ps_ret (pe_and (pe_callB call_isi (by rfl) T.isi (by decide +kernel) (pa_cons (pv 0) (pa_cons (pe_bltn (v := .ty "tuple") (by rfl) T.tup (by decide +kernel) rfl) pa_nil)))
      (pe_and (pe_call GW hr (by rfl) T.gW T.kW bW .nil pass0 (pa_cons (pe_callB call_len_seq (by rfl) T.len PySem.boot_len (pa_cons (pv 0) pa_nil)) pa_nil))
      (pe_one (pe_callB (cr_all rfl) (by rfl) T.all (by decide +kernel) (pa_cons (pe_lc (own := [("number", 1)]) (g := gName 1) (tt := tYes) rfl scIsRow.nd (pi_tup (pv 0))
        (blkOk_by (own := [("number", 1)]) (N := ["value", "number"]) (sc := defScope sIsRow) (by decide +kernel)) (fun _ _ _ _ _ => pg_name (i := 1) scIsRow.nd rfl (Or.inl rfl)) (fun _ _ _ _ _ => pts_nil)
        (fun _ _ _ _ _ => pe_call GC hr (by rfl) T.gC T.kC bC .nil pass0 (pa_cons (pv 1) pa_nil))) pa_nil)))))), ?_⟩
    obtain ⟨t, ty, kt⟩ := d.kTup (K := K)
    refine ⟨_, rfl, _, _, t, _, isTupV H v, rfl, .ty _, ty, kt, isTupV H v, rfl, ?_⟩
    by_cases c : isTupV H v = true
    · obtain ⟨a, xs, rfl, ha⟩ := isTup_at c
      obtain ⟨hl, hx⟩ := tu a xs rfl ha
      have k0 : ∀ H', Same H H' → Q (.bl (rowL xs)) H' := fun H' s' => by
        have k' := k H' s'
        simp only [onTup, ha] at k'
        exact k'
      refine if_pos_of c ⟨_, rfl, a, _, rfl, .inr (SqT.of ha), _, rfl, .int _, _, rfl, ?_⟩
      by_cases c1 : isW (.int xs.length) = true
      · have er : rowL xs = xs.all isC := by unfold rowL; rw [c1]; rfl
        refine if_pos_of c1 ⟨_, rfl, a, rfl, ⟨_, SqT.of ha⟩, fun D hD => lc_pure (f := fun i => .bl (isC (xs.getD i .non))) (walk_tup (K := K) (a := a) (xs := xs)) (small1000 hl) hD (fun H1 s1 => SqT.of (s1 _ _ ha)) ?_ gName_mono ?_⟩
        · rintro i x H2 H3 hi s2 ⟨rfl, hxi⟩
          have e : xs.getD i .non = x := by simp [List.getD, hxi]
          obtain ⟨dx, sx⟩ := hx x (List.mem_of_getElem? hxi)
          refine ⟨rfl, fun Q' q => ⟨_, rfl, x, rfl, dx.same s2, ?_⟩⟩
          have q0 := q _ Same.rfl'
          rw [e] at q0
          exact q0
        · intro H2 s2 hD2
          refine ⟨D, (List.range xs.length).map fun i => isC (xs.getD i .non), rfl, ?_, ?_⟩
          · rw [List.map_map]
            exact SqL.of hD2
          · rw [all_list, ← er]
            exact k0 H2 s2
      · have c1' := Bool.eq_false_iff.mpr c1
        have er : rowL xs = false := by unfold rowL; rw [c1']; rfl
        refine if_neg_of c1' ?_
        rw [← er]
        exact k0 H Same.rfl'
    · have c' := Bool.eq_false_iff.mpr c
      refine if_neg_of c' ?_
      have k' := k H Same.rfl'
      rw [onTup_no c'] at k'
      exact k'
end
end K0

/-! ## A6 -/
set_option maxRecDepth 100000
set_option maxHeartbeats 2000000
namespace K0
open PySem L2
abbrev sDice : Stmt := top 30
abbrev sRoll : Stmt := top 31
abbrev sPick : Stmt := top 32
def DiceAt (H : Hp) (p : Addr) : Prop := ∃ x y z : Int, H p = some (.lst [.int x, .int y, .int z])
/-- all but the dice stay -/
def Kd (p : Addr) (H H' : Hp) : Prop := ∀ b o, b ≠ p → H b = some o → H' b = some o
theorem Kd.rfl' {p : Addr} {H : Hp} : Kd p H H := fun _ _ _ h => h
theorem Kd.tr {p : Addr} {A B C : Hp} (a : Kd p A B) (b : Kd p B C) : Kd p A C := fun c o n h => b c o n (a c o n h)
theorem Kd.of {p : Addr} {A B : Hp} (a : Same A B) : Kd p A B := fun c o _ h => a c o h
theorem Kd.put {p : Addr} {H : Hp} {o : HO} : Kd p H (upd H p o) := fun b u n q => by rw [upd_ne n]; exact q
def spDice (K : PySem.W.Frag) : Sp := fun vs H Q _ => ∃ (a : Addr) (ns : List Int) (i : Int), vs = [.ref a, .int i] ∧ SqL K H a (ns.map V.int) ∧ 0 ≤ i ∧ ∀ H' p, Same H H' → H p = none → DiceAt H' p → Q (.ref p) H'
def spRoll : Sp := fun vs H Q _ => ∃ (p : Addr) (t : Int), vs = [.ref p, .int t] ∧ DiceAt H p ∧ 0 < t ∧ t < 1073741824 ∧ ∀ r H', 0 ≤ r → r < t → Kd p H H' → DiceAt H' p → Q (.int r) H'
def spPick : Sp := fun vs H Q _ => ∃ (p a : Addr) (xs : List V), vs = [.ref p, .ref a] ∧ DiceAt H p ∧ a ≠ p ∧ H a = some (.lst xs) ∧ 0 < xs.length ∧ xs.length ≤ 1000 ∧ ∀ v H', v ∈ xs → Kd p H H' → DiceAt H' p → Q v H'
structure TL (K : PySem.W.Frag) (mg : Str → Option Value) (fR fP : Addr) : Prop where
  int : mg "int" = none
  abs : mg "abs" = none
  max : mg "max" = none
  len : mg "len" = none
  gR : mg "_law_roll" = some (.ref fR)
  kR : PySem.W.keepIn K (.ref fR) = true
  gP : mg "_law_pick" = some (.ref fP)
  kP : PySem.W.keepIn K (.ref fP) = true
theorem mod_cm {a b : Int} : CMul (a % 2305843009213693907) b := .inl ⟨by have := Int.emod_nonneg a (show (2305843009213693907 : Int) ≠ 0 by decide); omega, by have := Int.emod_lt_of_pos a (show (0 : Int) < 2305843009213693907 by decide); omega⟩
theorem big_mul : CMulW ((10 : Int) ^ (60 : Int).toNat) ((10 : Int) ^ (60 : Int).toNat) := by
  unfold CMulW
  decide +kernel
theorem big_pos : (0 : Int) < (10 : Int) ^ (60 : Int).toNat * (10 : Int) ^ (60 : Int).toNat := by decide +kernel
theorem at0 {x y z : V} : atI [x, y, z] 0 = some x := rfl
theorem at1 {x y z : V} : atI [x, y, z] 1 = some y := rfl
theorem at2 {x y z : V} : atI [x, y, z] 2 = some z := rfl
section
variable {P : Program} {w : World} {K : PySem.W.Frag} {mg : Str → Option Value} {base : Heap} {fR fP : Addr} {fdR fdP : FuncData}
theorem scDice : FnScope ["_law_script", "_law_spot", "_law_cell", "_law_left"] ["_law_script", "_law_spot"] (defScope sDice) := ⟨rfl, rfl, rfl, by decide +kernel, rfl, by decide +kernel, by decide +kernel⟩
theorem ok_dice {f : Addr} {fd : FuncData} (F : Fun K "_law_dice" "_law_dice" sDice f fd) (T : TL K mg fR fP) : FnOk P w K mg base CX0 1 f fd ["_law_script", "_law_spot"] (spDice K) := by
  refine F.ok scDice (fun vs H Q E h => ?_) (fun cdv A outer s H vs Q E hr h => ?_)
  · obtain ⟨a, ns, i, rfl, _⟩ := h
    rfl
  · obtain ⟨a, ns, i, rfl, hS, hi, k⟩ := h
    refine ⟨_, pss_cons (ps_set (i := 2) scDice.nd rfl (Or.inl rfl) (pe_ifExp (pt_cmpR op_lt (pv 1) (pe_callB call_len_seq (by rfl) T.len PySem.boot_len (pa_cons (pv 0) pa_nil)) (nomark _))
        (pe_callTy call_int1 (by rfl) T.int (by decide +kernel) (pa_cons (pe_ix ix_list (pv 0) (pv 1) (fun _ _ => rfl)) pa_nil)) (pe_op op_add (pe_op op_mul pe_int (pv 1)) pe_int)))
      (pss_cons (ps_set (i := 3) scDice.nd rfl (Or.inl rfl) (pe_op op_mod (pe_callB (call_max2 rfl) (by rfl) T.max (by decide +kernel) (pa_cons pe_int (pa_cons (pe_op op_sub (pe_callB call_abs (by rfl) T.abs (by decide +kernel) (pa_cons (pv 2) pa_nil)) (pe_op op_pow pe_int pe_int)) pa_nil)))
        (pe_op op_mulW (pe_op op_pow pe_int pe_int) (pe_op op_pow pe_int pe_int))))
      (pss_one (ps_ret (pe_lst (pa_cons (pv 3) (pa_cons (pe_op op_add (pe_op op_add (pe_op op_add (pe_op op_mul (pe_op op_mod (pe_callB call_abs (by rfl) T.abs (by decide +kernel) (pa_cons (pv 2) pa_nil)) pe_int) pe_int) (pe_op op_mul pe_int (pv 1)))
        (pe_op op_mul pe_int (pe_callTy call_int1 (by rfl) T.int (by decide +kernel) (pa_cons (pe_cmpR op_lt (pv 2) pe_int (nomark _)) pa_nil)))) pe_int) (pa_cons pe_int pa_nil))))))), ?_⟩
    refine ⟨_, rfl, _, rfl, a, _, rfl, .inl hS, _, _, rfl, rfl, _, rfl, ?_⟩
    rw [List.length_map]
    by_cases c : i < (ns.length : Int)
    · have hl : i.toNat < ns.length := by omega
      have e : atI (ns.map V.int) ((i.toNat : Nat) : Int) = some (.int ns[i.toNat]) := atI_nat (by rw [List.getElem?_map, List.getElem?_eq_getElem hl]; rfl)
      rw [Int.toNat_of_nonneg hi] at e
      refine if_pos_of (decide_eq_true c) ⟨_, rfl, _, rfl, a, _, _, _, rfl, rfl, hS, e, .inl ⟨_, rfl, ?_⟩⟩
      refine ⟨_, rfl, _, rfl, _, _, rfl, rfl, ⟨by decide, by decide, by decide⟩, _, _, rfl, rfl, _, _, rfl, _, _, rfl, rfl, ⟨by decide, by decide, by decide⟩, _, _, rfl, rfl, ⟨by decide, by decide, by decide⟩, _, _, rfl, rfl, big_mul, _, _, rfl, rfl, big_pos, ?_⟩
      refine ⟨_, rfl, _, rfl, _, rfl, _, _, rfl, rfl, (by show (0 : Int) < 1152921504606846869; decide), _, _, rfl, rfl, .inr ⟨by decide, by decide⟩, _, rfl, _, _, rfl, rfl, .inl ⟨by decide, by decide⟩, _, _, rfl, rfl, ?_⟩
      refine ⟨_, rfl, _, _, rfl, rfl, .inr ⟨_, rfl, _, _, rfl, rfl, .inl ⟨by decide, by decide⟩, _, _, rfl, rfl, _, _, rfl, rfl, ?_⟩⟩
      exact ⟨by show 3 ≤ sizeLine; decide, fun p hp => k _ p (Same.new _ hp) hp ⟨_, _, _, upd_same⟩⟩
    · refine if_neg_of (decide_eq_false c) ⟨_, rfl, _, _, rfl, rfl, .inl ⟨by decide, by decide⟩, _, _, rfl, rfl, ?_⟩
      refine ⟨_, rfl, _, rfl, _, _, rfl, rfl, ⟨by decide, by decide, by decide⟩, _, _, rfl, rfl, _, _, rfl, _, _, rfl, rfl, ⟨by decide, by decide, by decide⟩, _, _, rfl, rfl, ⟨by decide, by decide, by decide⟩, _, _, rfl, rfl, big_mul, _, _, rfl, rfl, big_pos, ?_⟩
      refine ⟨_, rfl, _, rfl, _, rfl, _, _, rfl, rfl, (by show (0 : Int) < 1152921504606846869; decide), _, _, rfl, rfl, .inr ⟨by decide, by decide⟩, _, rfl, _, _, rfl, rfl, .inl ⟨by decide, by decide⟩, _, _, rfl, rfl, ?_⟩
      refine ⟨_, rfl, _, _, rfl, rfl, .inr ⟨_, rfl, _, _, rfl, rfl, .inl ⟨by decide, by decide⟩, _, _, rfl, rfl, _, _, rfl, rfl, ?_⟩⟩
      exact ⟨by show 3 ≤ sizeLine; decide, fun p hp => k _ p (Same.new _ hp) hp ⟨_, _, _, upd_same⟩⟩
theorem scRoll : FnScope ["_law_dice_here", "_law_total", "_law_found", "_law_one", "_law_two"] ["_law_dice_here", "_law_total"] (defScope sRoll) := ⟨rfl, rfl, rfl, by decide +kernel, rfl, by decide +kernel, by decide +kernel⟩
theorem ok_roll {f : Addr} {fd : FuncData} (F : Fun K "_law_roll" "_law_roll" sRoll f fd) (T : TL K mg fR fP) : FnOk P w K mg base CX0 1 f fd ["_law_dice_here", "_law_total"] spRoll := by
  refine F.ok scRoll (fun vs H Q E h => ?_) (fun cdv A outer s H vs Q E hr h => ?_)
  · obtain ⟨a, t, rfl, _⟩ := h
    rfl
  · obtain ⟨p, t, rfl, ⟨x, y, z, hp⟩, h0, h1, k⟩ := h
    refine ⟨_, pss_cons (ps_if (pt_cmpR op_gt (pe_ix ix_list (pv 0) pe_int (fun _ _ => rfl)) pe_int (nomark _))
        (pss_cons (ps_set (i := 2) scRoll.nd rfl (Or.inl rfl) (pe_op op_mod (pe_callTy call_int1 (by rfl) T.int (by decide +kernel) (pa_cons (pe_ix ix_list (pv 0) pe_int (fun _ _ => rfl)) pa_nil)) (pv 1)))
        (pss_cons (ps_asg (pe_op op_fdiv (pe_ix ix_list (pv 0) pe_int (fun _ _ => rfl)) (pv 1)) (pg_sub (pv 0) pe_int set_list))
        (pss_one (ps_ret (pv 2))))) pss_nil)
      (pss_cons (ps_asg (pe_op op_add (pe_ix ix_list (pv 0) pe_int (fun _ _ => rfl)) pe_int) (pg_sub (pv 0) pe_int set_list))
      (pss_cons (ps_set (i := 3) scRoll.nd rfl (Or.inl rfl) (pe_op op_mod (pe_callTy call_int1 (by rfl) T.int (by decide +kernel) (pa_cons (pe_op op_add (pe_ix ix_list (pv 0) pe_int (fun _ _ => rfl)) (pe_op op_mul pe_int (pe_ix ix_list (pv 0) pe_int (fun _ _ => rfl)))) pa_nil)) pe_int))
      (pss_cons (ps_set (i := 4) scRoll.nd rfl (Or.inl rfl) (pe_op op_add (pe_op op_mul (pe_op op_mod (pe_callTy call_int1 (by rfl) T.int (by decide +kernel) (pa_cons (pe_op op_add (pe_op op_mul (pv 3) (pv 3)) (pe_op op_mul pe_int (pe_ix ix_list (pv 0) pe_int (fun _ _ => rfl)))) pa_nil)) pe_int) pe_int) (pv 3)))
      (pss_one (ps_ret (pe_op op_mod (pe_callTy call_int1 (by rfl) T.int (by decide +kernel) (pa_cons (pe_op op_fdiv (pv 4) pe_int) pa_nil)) (pv 1))))))), ?_⟩
    refine ⟨_, rfl, p, _, _, _, rfl, rfl, SqL.of hp, at0, _, _, rfl, rfl, _, rfl, ?_⟩
    by_cases c : (0 : Int) < x
    · refine if_pos_of (decide_eq_true c) ⟨_, rfl, p, _, _, _, rfl, rfl, SqL.of hp, at0, .inl ⟨_, rfl, _, rfl, _, _, rfl, rfl, h0, ?_⟩⟩
      refine ⟨_, rfl, p, _, _, _, rfl, rfl, SqL.of hp, at0, _, rfl, _, _, rfl, rfl, ⟨h0, h1⟩, _, rfl, p, _, _, 0, rfl, rfl, hp, rfl, _, rfl, ?_⟩
      exact k _ _ (Int.emod_nonneg _ (by omega)) (Int.emod_lt_of_pos _ h0) Kd.put ⟨_, _, _, upd_same⟩
    · refine if_neg_of (decide_eq_false c) ?_
      refine ⟨_, rfl, p, _, _, _, rfl, rfl, SqL.of hp, at2, _, _, rfl, rfl, _, rfl, p, _, _, 2, rfl, rfl, hp, rfl, ?_⟩
      refine ⟨_, rfl, p, _, _, _, rfl, rfl, SqL.of upd_same, at1, _, rfl, p, _, _, _, rfl, rfl, SqL.of upd_same, at2, _, _, rfl, rfl, .inl ⟨by decide, by decide⟩, _, _, rfl, rfl, .inl ⟨_, rfl, _, _, rfl, rfl, (by show (0 : Int) < 2305843009213693907; decide), ?_⟩⟩
      refine ⟨_, rfl, _, rfl, _, _, rfl, rfl, mod_cm, _, rfl, p, _, _, _, rfl, rfl, SqL.of upd_same, at2, _, _, rfl, rfl, .inl ⟨by decide, by decide⟩, _, _, rfl, rfl, .inl ⟨_, rfl, _, _, rfl, rfl, (by show (0 : Int) < 2305843009213693921; decide), ?_⟩⟩
      refine ⟨_, _, rfl, rfl, .inr ⟨by decide, by decide⟩, _, rfl, _, _, rfl, rfl, ?_⟩
      refine ⟨_, rfl, _, _, rfl, rfl, ⟨(by show (0 : Int) < 65536; decide), (by show (65536 : Int) < 1073741824; decide)⟩, .inl ⟨_, rfl, _, rfl, _, _, rfl, rfl, h0, ?_⟩⟩
      exact k _ _ (Int.emod_nonneg _ (by omega)) (Int.emod_lt_of_pos _ h0) Kd.put ⟨_, _, _, upd_same⟩
theorem scPick : FnScope ["_law_dice_here", "_law_items"] ["_law_dice_here", "_law_items"] (defScope sPick) := ⟨rfl, rfl, rfl, by decide +kernel, rfl, by decide +kernel, by decide +kernel⟩
theorem ok_pick {f : Addr} {fd : FuncData} (F : Fun K "_law_pick" "_law_pick" sPick f fd) (T : TL K mg fR fP) (G : FnOk P w K mg base CX0 1 fR fdR ["_law_dice_here", "_law_total"] spRoll) (bR : Binds K fdR ["_law_dice_here", "_law_total"] []) :
    FnOk P w K mg base CX0 2 f fd ["_law_dice_here", "_law_items"] spPick := by
  refine F.ok scPick (fun vs H Q E h => ?_) (fun cdv A outer s H vs Q E hr h => ?_)
  · obtain ⟨p, a, xs, rfl, _⟩ := h
    rfl
  · obtain ⟨p, a, xs, rfl, hp, hne, ha, h0, h1, k⟩ := h
    refine ⟨_, pss_one (ps_ret (pe_ix ix_list (pv 1) (pe_call G hr (by rfl) T.gR T.kR bR .nil pass0 (pa_cons (pv 0) (pa_cons (pe_callB call_len_seq (by rfl) T.len PySem.boot_len (pa_cons (pv 1) pa_nil)) pa_nil))) (fun _ _ => rfl))), ?_⟩
    refine ⟨_, rfl, _, rfl, _, rfl, a, xs, rfl, .inl (SqL.of ha), p, _, rfl, hp, by omega, by omega, fun r H' r0 r1 kd dc => ?_⟩
    have hr1 : r.toNat < xs.length := by omega
    have ha' := kd _ _ hne ha
    refine ⟨a, xs, r, xs[r.toNat], rfl, rfl, SqL.of ha', ?_, k _ _ (List.getElem_mem hr1) kd dc⟩
    have e : atI xs ((r.toNat : Nat) : Int) = some xs[r.toNat] := atI_nat (List.getElem?_eq_getElem hr1)
    have e2 : ((r.toNat : Nat) : Int) = r := Int.toNat_of_nonneg r0
    rw [e2] at e
    exact e
end
end K0

/-! ## A7 -/
set_option maxRecDepth 100000
set_option maxHeartbeats 2000000
namespace K0
open PySem L2
abbrev sMixed : Stmt := top 33
abbrev sIsWord : Stmt := top 998
abbrev sWord : Stmt := top 998
abbrev sNumber : Stmt := top 998
/-- a comprehension whose element rolls the dice -/
theorem lc_roll {J : It} {n : Nat} {G : Hp → Prop} {Y : Nat → Hp → V → Hp → Prop} (w : Walk J n G Y) {g : TG} {te : TE} {vs : List Nat} {σ : St} {H1 : Hp} {D p : Addr} {Qd : Hp → Prop} (Gd : V → Prop)
    (hn : n < sizeLine) (hD : H1 D = none) (hp : DiceAt H1 p) (hG : ∀ H, Kd p H1 H → DiceAt H p → G H)
    (hs : ∀ i x H H', i < n → Kd p H1 H → DiceAt H p → Y i H x H' → g x (wipe σ vs) H' fun σ2 H2 => wipe σ2 vs = wipe σ vs ∧ ∀ (Q : V → Hp → Prop), (∀ y H4, Gd y → Kd p H H4 → DiceAt H4 p → Q y H4) → te σ2 H2 Q)
    (gm : ∀ x σ H (P R : St → Hp → Prop), (∀ σ2 H2, P σ2 H2 → R σ2 H2) → g x σ H P → g x σ H R)
    (hd : ∀ H acc, Kd p H1 H → DiceAt H p → H D = some (.lst acc) → acc.length = n → (∀ y ∈ acc, Gd y) → Qd H) :
    ∃ W : Nat → Nat → Hp → Prop, (∃ m, W 0 m (upd H1 D (.lst []))) ∧ ∀ i m H, W i m H →
      (J.stop i H ∧ Qd H) ∨ (J.go i H ∧ ∃ Nx : Hp → Prop, (∀ H', Nx H' → ∃ m', m' < m ∧ W (i + 1) m' H') ∧ ∀ x H', J.yld i H x H' → g x (wipe σ vs) H' fun σ2 H2 => wipe σ2 vs = wipe σ vs ∧ tYes σ2 H2 fun b H3 =>
        if b = true then te σ2 H3 fun y H4 => ∃ acc, H4 D = some (.lst acc) ∧ acc.length < sizeLine ∧ Nx (upd H4 D (.lst (acc ++ [y]))) else Nx H3) := by
  obtain ⟨x0, y0, z0, e0⟩ := hp
  have hDp : p ≠ D := ne_of_none e0 hD
  refine lc_it w (fun i H => Kd p H1 H ∧ DiceAt H p ∧ ∃ acc, H D = some (.lst acc) ∧ acc.length = i ∧ ∀ y ∈ acc, Gd y)
    ⟨Kd.of (Same.new _ hD), ⟨x0, y0, z0, by rw [upd_ne hDp]; exact e0⟩, [], upd_same, rfl, fun y h => by cases h⟩ (fun i H _ q => hG H q.1 q.2.1) (fun i x H H' hi q y => ?_) (fun H q => ?_)
  · obtain ⟨q1, q2, acc, q3, q4, q5⟩ := q
    refine gm _ _ _ _ _ (fun σ2 H2 r => ⟨r.1, ?_⟩) (hs i x H H' hi q1 q2 y)
    dsimp only [tYes]
    rw [if_pos rfl]
    refine r.2 _ fun y H4 gy s4 d4 => ⟨acc, s4 _ _ hDp.symm q3, by omega, ?_, ?_, acc ++ [y], upd_same, by rw [List.length_append, q4]; rfl, ?_⟩
    · exact fun b o nb e => by rw [upd_ne (ne_of_none e hD)]; exact s4 _ _ nb (q1 _ _ nb e)
    · obtain ⟨a1, a2, a3, a4⟩ := d4
      exact ⟨a1, a2, a3, by rw [upd_ne hDp]; exact a4⟩
    · intro u hu
      rcases List.mem_append.mp hu with h | h
      · exact q5 u h
      · rw [List.mem_singleton.mp h]; exact gy
  · obtain ⟨q1, q2, acc, q3, q4, q5⟩ := q
    exact hd H acc q1 q2 q3 q4 q5
theorem erase_perm {α : Type} : ∀ (l : List α) (i : Nat) (h : i < l.length), List.Perm (l[i] :: l.eraseIdx i) l
  | x :: r, 0, _ => .refl _
  | x :: r, i + 1, h => by
    simp only [List.getElem_cons_succ, List.eraseIdx_cons_succ]
    exact (List.Perm.swap x _ _).trans ((erase_perm r i (by simpa using h)).cons x)
def okS (z : Str) : Prop := ∀ c ∈ z.cps.toList, c < 0x110000
theorem okS_app {a b : Str} (ha : okS a) (hb : okS b) : okS (a ++ b) := fun c h => by
  have e : (a ++ b).cps.toList = a.cps.toList ++ b.cps.toList := by
    show (a.cps ++ b.cps).toList = _
    simp
  rw [e] at h
  rcases List.mem_append.mp h with h | h
  · exact ha c h
  · exact hb c h
theorem okS_join : ∀ ys : List Str, (∀ y ∈ ys, okS y) → okS (Str.join "" ys)
  | [], _ => fun c h => by cases h
  | [x], h => h x List.mem_cons_self
  | x :: y :: r, h => okS_app (okS_app (h x List.mem_cons_self) fun c h => by cases h) (okS_join (y :: r) fun z hz => h z (List.mem_cons_of_mem _ hz))
theorem strs_of : ∀ (acc : List V), (∀ y ∈ acc, ∃ c : Nat, c < 256 ∧ y = .str ⟨#[c]⟩) → ∃ ys : List Str, acc = ys.map V.str ∧ (ys.map (·.length)).sum = acc.length ∧ ys.length = acc.length ∧ ∀ y ∈ ys, okS y
  | [], _ => ⟨[], rfl, rfl, rfl, fun y h => by cases h⟩
  | y :: r, h => by
    obtain ⟨c, hc, rfl⟩ := h y List.mem_cons_self
    obtain ⟨ys, e1, e2, e3, e4⟩ := strs_of r fun z hz => h z (List.mem_cons_of_mem _ hz)
    refine ⟨⟨#[c]⟩ :: ys, by rw [e1]; rfl, ?_, by rw [List.length_cons, List.length_cons, e3], fun y hy => ?_⟩
    rotate_left
    · rcases List.mem_cons.mp hy with e | e
      · rw [e]
        intro d hd
        have hd' : d ∈ [c] := hd
        rw [List.mem_singleton.mp hd']
        omega
      · exact e4 y e
    rw [List.map_cons, List.sum_cons, e2, List.length_cons]
    show 1 + _ = _
    omega
def spMixed : Sp := fun vs H Q _ => ∃ (p a : Addr) (xs : List V), vs = [.ref p, .ref a] ∧ DiceAt H p ∧ a ≠ p ∧ H a = some (.lst xs) ∧ xs.length ≤ 1000 ∧ ∀ ys l H', ys.Perm xs → H l = none → H' l = some (.lst ys) → Kd p H H' → DiceAt H' p → Q (.ref l) H'
def spWord : Sp := fun vs H Q _ => ∃ (p : Addr), vs = [.ref p] ∧ DiceAt H p ∧ ∀ z H', z.length ≤ 10 → okS z → Kd p H H' → DiceAt H' p → Q (.str z) H'
def spNumber : Sp := fun vs H Q _ => ∃ (p : Addr), vs = [.ref p] ∧ DiceAt H p ∧ ∀ (n : Int) H', n.natAbs < 2 ^ 300 → Kd p H H' → DiceAt H' p → Q (.int n) H'
theorem forty : CMulW ((10 : Int) ^ (40 : Int).toNat) ((10 : Int) ^ (40 : Int).toNat) := by
  unfold CMulW
  decide +kernel
def nears : List V := [.int 0, .int 1, .int 7, .int ((10 : Int) ^ (6 : Int).toNat), .int ((10 : Int) ^ (59 : Int).toNat), .int ((10 : Int) ^ (60 : Int).toNat), .int ((10 : Int) ^ (60 : Int).toNat), .int ((10 : Int) ^ (40 : Int).toNat * (10 : Int) ^ (40 : Int).toNat)]
theorem near_of {v : V} (h : v ∈ nears) : ∃ n : Int, v = .int n ∧ n.natAbs < 2 ^ 280 := by
  simp only [nears, List.mem_cons, List.not_mem_nil, or_false] at h
  rcases h with h | h | h | h | h | h | h | h <;> exact ⟨_, h, by decide +kernel⟩
structure TM (K : PySem.W.Frag) (mg : Str → Option Value) (fR fP : Addr) : Prop extends TL K mg fR fP where
  list : mg "list" = none
  range : mg "range" = none
section
variable {P : Program} {w : World} {K : PySem.W.Frag} {mg : Str → Option Value} {base : Heap} {fR fP : Addr} {fdR fdP : FuncData}
theorem scMixed : FnScope ["_law_dice_here", "_law_items", "_law_left", "_law_found", "_law_turn"] ["_law_dice_here", "_law_items"] (defScope sMixed) := ⟨rfl, rfl, rfl, by decide +kernel, rfl, by decide +kernel, by decide +kernel⟩
theorem ok_mixed {f : Addr} {fd : FuncData} (F : Fun K "_law_mixed" "_law_mixed" sMixed f fd) (T : TM K mg fR fP) (G : FnOk P w K mg base CX0 1 fR fdR ["_law_dice_here", "_law_total"] spRoll) (bR : Binds K fdR ["_law_dice_here", "_law_total"] []) :
    FnOk P w K mg base CX0 2 f fd ["_law_dice_here", "_law_items"] spMixed := by
  refine F.ok scMixed (fun vs H Q E h => ?_) (fun cdv A outer s H vs Q E hr h => ?_)
  · obtain ⟨p, a, xs, rfl, _⟩ := h
    rfl
  · obtain ⟨p, a, xs, rfl, hp, hne, ha, h1, k⟩ := h
    refine ⟨_, pss_cons (ps_par (i := 2) (j := 3) rfl scMixed.nd rfl rfl (by decide) rfl rfl (pa_cons (pe_callTy call_list_of (by rfl) T.list (by decide +kernel) (pa_cons (pv 1) pa_nil)) (pa_cons (pe_lst pa_nil) pa_nil)) rfl)
      (pss_cons (ps_for PassesOwn.never rfl (pi_range1 (by rfl) T.range (pa_cons (pe_callB call_len_seq (by rfl) T.len PySem.boot_len (pa_cons (pv 1) pa_nil)) pa_nil)) (pg_name (i := 4) scMixed.nd rfl (Or.inl rfl))
        (pss_one (ps_expr (pe_bm PySem.F.plainAttrs_list PySem.F.slot_list_append PySem.F.type_list_append mt_append (pv 3) (pa_cons (pe_bm PySem.F.plainAttrs_list PySem.F.slot_list_pop PySem.F.type_list_pop mt_popAt (pv 2)
          (pa_cons (pe_call G hr (by rfl) T.gR T.kR bR .nil pass0 (pa_cons (pv 0) (pa_cons (pe_callB call_len_seq (by rfl) T.len PySem.boot_len (pa_cons (pv 2) pa_nil)) pa_nil))) pa_nil)) pa_nil)))))
      (pss_one (ps_ret (pv 3)))), ?_⟩
    refine ⟨_, rfl, a, xs, rfl, .inl (SqL.of ha), fun l hl => ?_⟩
    have hal : a ≠ l := ne_of_none ha hl
    have hpl : p ≠ l := by
      obtain ⟨x, y, z, e⟩ := hp
      exact ne_of_none e hl
    refine ⟨Nat.zero_le _, fun q hq => ⟨_, _, rfl, ?_⟩⟩
    have hql : l ≠ q := fun e => by rw [← e, upd_same] at hq; cases hq
    have hq0 : H q = none := by rw [upd_ne hql.symm] at hq; exact hq
    have haq : a ≠ q := ne_of_none ha hq0
    have hpq : p ≠ q := by
      obtain ⟨x, y, z, e⟩ := hp
      exact ne_of_none e hq0
    have ha' : upd (upd H l (.lst xs)) q (.lst []) a = some (.lst xs) := by rw [upd_ne haq, upd_ne hal]; exact ha
    refine ⟨_, rfl, a, xs, rfl, .inl (SqL.of ha'), (xs.length : Int), rfl, by omega, by omega, for_range (n := xs.length) (fun i σ H' => ∃ (left found : List V) (v : Option V), σ = [some (.ref p), some (.ref a), some (.ref l), some (.ref q), v] ∧ Kd p H H' ∧ DiceAt H' p ∧ H' l = some (.lst left) ∧ H' q = some (.lst found) ∧ (found ++ left).Perm xs ∧ left.length + i = xs.length)
      ⟨xs, [], none, rfl, fun b o nb e => ?_, ?_, ?_, upd_same, by simp, rfl⟩ ?_ ?_⟩
    · rw [upd_ne (ne_of_none e hq0), upd_ne (ne_of_none e hl)]; exact e
    · obtain ⟨x, y, z, e⟩ := hp
      exact ⟨x, y, z, by rw [upd_ne hpq, upd_ne hpl]; exact e⟩
    · rw [upd_ne hql, upd_same]
    · rintro i σ H1 hi ⟨left, found, v, rfl, kd, dc, h1l, h1q, pm, len⟩
      have fl : found.length ≤ 1000 := by
        have := pm.length_eq
        rw [List.length_append] at this
        omega
      refine ⟨_, rfl, .inl ⟨rfl, _, SqL.of h1q⟩, _, rfl, .inl ⟨rfl, _, SqL.of h1l⟩, _, rfl, _, rfl, l, left, rfl, .inl (SqL.of h1l), p, _, rfl, dc, by omega, by omega, fun r H2 r0 r1 kd2 dc2 => ?_⟩
      have h2l := kd2 _ _ hpl.symm h1l
      have h2q := kd2 _ _ hpq.symm h1q
      have hr1 : r.toNat < left.length := by omega
      refine ⟨l, left, r, r.toNat, left[r.toNat], rfl, rfl, h2l, by omega, by omega, seqIndex_of r0 r1, List.getElem?_eq_getElem hr1, q, found, _, rfl, rfl, ?_, small1000 fl, ?_⟩
      · rw [upd_ne hql.symm]; exact h2q
      · refine ⟨left.eraseIdx r.toNat, found ++ [left[r.toNat]], _, rfl, fun b o nb e => ?_, ?_, ?_, upd_same, ?_, ?_⟩
        · rw [upd_ne (ne_of_none e hq0), upd_ne (ne_of_none e hl)]
          exact kd2 _ _ nb (kd _ _ nb e)
        · obtain ⟨x, y, z, e⟩ := dc2
          exact ⟨x, y, z, by rw [upd_ne hpq, upd_ne hpl]; exact e⟩
        · rw [upd_ne hql, upd_same]
        · rw [List.append_assoc]
          exact ((erase_perm left r.toNat hr1).append_left found).trans pm
        · rw [List.length_eraseIdx_of_lt hr1]
          omega
    · rintro σ H1 ⟨left, found, v, rfl, kd, dc, h1l, h1q, pm, len⟩
      have hn : left = [] := List.eq_nil_of_length_eq_zero (by omega)
      rw [hn, List.append_nil] at pm
      exact ⟨_, rfl, k found q H1 pm hq0 h1q kd dc⟩
end
end K0

/-! ## A8 -/
set_option maxRecDepth 100000
set_option maxHeartbeats 2000000
namespace K0
open PySem L2
abbrev sDiff : Stmt := top 998
abbrev sDFrom : Stmt := top 998
theorem seqT {K : PySem.W.Frag} {H H' : Hp} {a : Addr} {xs : List V} (e : Same H H') (h : SqT K H a xs) : SqT K H' a xs :=
  h.imp (fun r => r.imp (fun q => e _ _ q) fun ⟨o, q⟩ => ⟨o, e _ _ q⟩) id
/-! ### lists without repetition -/
def ded : List Str → List Str
  | [] => []
  | x :: r => if x ∈ ded r then ded r else x :: ded r
theorem ded_mem : ∀ (xs : List Str) (k : Str), k ∈ ded xs ↔ k ∈ xs
  | [], _ => Iff.rfl
  | x :: r, k => by
    unfold ded
    have ih := ded_mem r
    split
    · rename_i h
      rw [ih, List.mem_cons]
      exact ⟨.inr, fun z => z.elim (fun e => by rw [e]; exact (ih x).mp h) id⟩
    · rw [List.mem_cons, List.mem_cons, ih]
theorem ded_nodup : ∀ xs : List Str, (ded xs).Nodup
  | [] => List.Pairwise.nil
  | x :: r => by
    unfold ded
    split
    · exact ded_nodup r
    · rename_i h
      exact List.nodup_cons.mpr ⟨h, ded_nodup r⟩
theorem ded_le : ∀ xs : List Str, (ded xs).length ≤ xs.length
  | [] => Nat.le_refl _
  | x :: r => by
    unfold ded
    have := ded_le r
    split <;> simp only [List.length_cons] <;> omega
theorem ded_full : ∀ xs : List Str, (ded xs).length = xs.length ↔ xs.Nodup
  | [] => ⟨fun _ => List.Pairwise.nil, fun _ => rfl⟩
  | x :: r => by
    have ih := ded_full r
    have le := ded_le r
    unfold ded
    split
    · rename_i h
      rw [ded_mem] at h
      constructor
      · intro e
        simp only [List.length_cons] at e
        omega
      · intro n
        exact absurd h (List.nodup_cons.mp n).1
    · rename_i h
      rw [ded_mem] at h
      rw [List.nodup_cons, List.length_cons, List.length_cons, Nat.add_right_cancel_iff, ih]
      exact ⟨fun z => ⟨h, z⟩, fun z => z.2⟩
theorem ded_len {xs L : List Str} (h : L.Nodup) (m : ∀ k, k ∈ L ↔ decide (k ∈ xs) = true) : L.length = (ded xs).length :=
  ((List.perm_ext_iff_of_nodup h (ded_nodup xs)).mpr fun k => by rw [m, ded_mem, decide_eq_true_eq]).length_eq
def spDiff (K : PySem.W.Frag) : Sp := fun vs H Q _ => ∃ (a : Addr) (xs : List Str), vs = [.ref a] ∧ (SqT K H a (xs.map V.str) ∨ SqL K H a (xs.map V.str)) ∧ xs.length ≤ 1000 ∧ ∀ H', Same H H' → Q (.bl (decide xs.Nodup)) H'
structure T4 (K : PySem.W.Frag) (mg : Str → Option Value) (fI fC fW fN : Addr) : Prop extends T3 K mg fI fC fW fN where
  set : mg "set" = none
def tkeys (kvs : List (Key × V)) (ks : List Str) : Bool := ks.all fun k => (valV kvs (.inr k)).isSome
def onDct (H : Hp) (p : List (Key × V) → Bool) : V → Bool
  | .ref a => match H a with
    | some (.dK kvs) => p kvs
    | _ => false
  | _ => false
theorem onDct_no {H : Hp} {p : List (Key × V) → Bool} {v : V} (h : isDctV H v = false) : onDct H p v = false := by
  cases v with
  | ref a =>
    simp only [isDctV] at h
    simp only [onDct]
    cases e : H a with
    | none => rfl
    | some o => cases o <;> first | rfl | (simp [e] at h)
  | _ => rfl
theorem isDct_at {H : Hp} {v : V} (h : isDctV H v = true) : ∃ a kvs, v = .ref a ∧ H a = some (.dK kvs) := by
  cases v with
  | ref a =>
    simp only [isDctV] at h
    cases e : H a with
    | none => simp [e] at h
    | some o => cases o <;> first | exact ⟨a, _, rfl, e⟩ | (simp [e] at h)
  | _ => cases h
/-- a dict's keys are texts, few -/
def Dk (H : Hp) (v : V) : Prop := ∀ a kvs, v = .ref a → H a = some (.dK kvs) → kvs.length ≤ 1000 ∧ ∀ p ∈ kvs, ∃ z, p.1 = Sum.inr z
def fromP (ks : List Str) (kvs : List (Key × V)) : Bool := decide (kvs.length = (ded ks).length) && tkeys kvs ks
def spDFrom (K : PySem.W.Frag) : Sp := fun vs H Q _ => ∃ (a : Addr) (ks : List Str) (v : V), vs = [.ref a, v] ∧ SqT K H a (ks.map V.str) ∧ ks.length ≤ 1000 ∧ Da H v ∧ Dk H v ∧ ∀ H', Same H H' → Q (.bl (onDct H (fromP ks) v)) H'
theorem strs_all (xs : List Str) (p : Str → Bool) : ((List.range xs.length).map fun i => p (xs.getD i Str.empty)).all id = xs.all p := by
  have e : (List.range xs.length).map (fun i => xs.getD i Str.empty) = xs := by
    apply List.ext_getElem
    · simp
    · intro i h1 h2
      simp at h1
      simp [h1]
  have e2 : xs.all p = ((List.range xs.length).map (fun i => xs.getD i Str.empty)).all p := by rw [e]
  rw [e2, List.all_map, List.all_map]
  rfl
end K0

/-! ## D1 -/
set_option maxRecDepth 100000
set_option maxHeartbeats 2000000
namespace K0
open PySem PySem.Spec PyProof.Rows L2
/-! ### defs that are entered where nothing is being shown -/
structure FnG (P : Program) (w : World) (K : PySem.W.Frag) (mg : Str → Option Value) (base : Heap) (CX : CXT) (k : Nat) (f : Addr) (fd : FuncData) (ps : List Str) (sp : Sp) : Prop where
  len : ∀ vs H Q E, sp vs H Q E → vs.length = ps.length
  run : ∀ (A : Around) (outer : List Env) (s : Shared) (H : Hp) (args : Args) (us : List Value) (vs : List V) (Q : VK) (E : XK), Room k A → A.guards = some [] → Env0 P w K mg base A outer s H → BindsTo s fd args (ps.zip us) → Vals vs us → sp vs H Q E →
    codeAny (model P w) A (.call (.ref f) args) (CR CX outer P w H s Q E) s
section
variable {P : Program} {w : World} {K : PySem.W.Frag} {mg : Str → Option Value} {base : Heap}
theorem FnG.of {CX : CXT} {k : Nat} {f : Addr} {fd : FuncData} {ps : List Str} {sp : Sp} (F : FnOk P w K mg base CX k f fd ps sp) : FnG P w K mg base CX k f fd ps sp :=
  ⟨F.len, fun A outer s H args us vs Q E hr _ => F.run A outer s H args us vs Q E hr⟩
/-- the def's body, where nothing is being shown -/
theorem gfn {x qual : Str} {st : Stmt} {f : Addr} {fd : FuncData} {N ps : List Str} {k : Nat} {sp : Sp} {CX : CXT} (F : Fun K x qual st f fd) (S : FnScope N ps (defScope st)) (len : ∀ vs H Q E, sp vs H Q E → vs.length = ps.length)
    (hbody : ∀ (cdv : Value) (A : Around) (outer : List Env) (s : Shared) (H : Hp) (vs : List V) (Q : VK) (E : XK), Room k (A.deeper (envOfC qual (defScope st) s.heap.objs.size f cdv)) → (A.deeper (envOfC qual (defScope st) s.heap.objs.size f cdv)).guards = some [] → sp vs H Q E →
      ∃ t, PSs (cxOf CX P w K mg base N qual (defScope st) f cdv A outer s H E) (defBody st) t ∧ t { nx := fun _ H' => Q .non H', rt := Q } (L2.start N vs) H) : FnG P w K mg base CX (k + 1) f fd ps sp := by
  obtain ⟨oc, od, kV, doc, pm, an, cdv, ct, osl, rfl, lk, hcd⟩ := F.ex
  refine ⟨len, fun A outer s H args us vs Q E hr hgd e0 hb r hsp => ?_⟩
  have hl := len _ _ _ _ hsp
  have KX : K.In s.heap := e0.mod.kin.keeps fun b o e => (e0.bs b o e).1
  have lim : s.heap.NoLimit := e0.mod.nolimit.keeps fun b o e => (e0.bs b o e).1
  have hkind : ∀ y ∈ ps.zip us, (defScope st).names.lookup y.1 = some .local ∨ ((defScope st).names.lookup y.1 = some .cell ∧ ((cellsFrom (s.heap.objs.size + 1) (defScope st).names []).lookup y.1).isSome = true) := fun ⟨n, v⟩ hy => by
    rcases S.par n (List.of_mem_zip hy).1 with q | q
    · exact .inl q
    · exact .inr ⟨q, PySem.W.cellsFrom_some _ _ _ (.inl q)⟩
  refine codeAny_call_function hr.depth (KX _ _ lk) rfl S.co S.gen rfl (PySem.W.codeRec_of KX hcd) (hb _ _ _ _ ?_)
  refine wpAny_newFunctionEnv_cells S.kind hkind fun env he s1 x => ?_
  subst he
  refine ⟨lim.keeps x.toInCall.keep, codeAny_func ?_⟩
  obtain ⟨t, ht, hq⟩ := hbody cdv A outer s H vs Q E (hr.deeper _) (by show A.guards = some []; exact hgd) hsp
  have I : Inv (cxOf CX P w K mg base N qual (defScope st) f cdv A outer s H E) [] (L2.start N vs) H s1 := inv_start S hr.hd e0 hl r x
  refine wpAny_mono (ht.run [] s1 (L2.start N vs) H _ I hq) (fun fl s' hs => ?_) fun e s' hs => hs
  have fin : ∀ {σ' : L2.St} {H' : Hp} {v : V} {u : Value}, Inv (cxOf CX P w K mg base N qual (defScope st) f cdv A outer s H E) [] σ' H' s' → RelV v u → Q v H' → CE outer P w H s Q u s' :=
    fun {σ' H' v u} J rv q => ⟨v, H', J.os, J.bare, J.base, J.hok, rv, q⟩
  cases fl with
  | ret u =>
    obtain ⟨v, σ', H', J, rv, q⟩ := hs
    exact fin J rv q
  | next =>
    obtain ⟨σ', H', J, q⟩ := hs
    exact fin (v := V.non) (u := Value.none) J rfl q
  | brk =>
    obtain ⟨_, _, _, q⟩ := hs
    exact False.elim q
  | cont =>
    obtain ⟨_, _, _, q⟩ := hs
    exact False.elim q
end
section
variable {X : Cx} {CX : CXT} {k : Nat} {f : Addr} {fd : FuncData} {ps : List Str} {sp : Sp} {dvs : List V} {ds : List Value} {E : XK} {x : Str} {p pos : Pos} {e : Expr} {es : List Expr} {t : TA}
theorem pe_callG (F : FnG X.prog X.w X.K X.mg X.base CX k f fd ps sp) (hr : Room k X.A) (hgd : X.A.guards = some []) (hg : Gl X x) (hm : X.mg x = some (.ref f)) (hk : PySem.W.keepIn X.K (.ref f) = true) (hb : Binds X.K fd ps ds) (hd : Vals dvs ds) (hx : Passes CX X E)
    (ha : PA X (e :: es) t) (hdb : (x == ("__debug__" : Str)) = false := by decide) (he : starEach (e :: es) X.env = (false, eval e X.env) :: starEach es X.env := by rfl) (hpl : (backTo pos (starEach es X.env)).any (·.1) = false := by rfl) :
    PE X (.Call (.Name x p) (e :: es) [] pos) (tCall sp dvs E t) := by
  refine ⟨fun pins s σ H Q I h => wpAny_Call_Name_kw (ld_glob I hg hm ?_ hdb)⟩
  refine PySem.W.callWith_K (h₀ := X.base) I.ok.mod.kin hk (thn (ha.run pos pins s σ H _ I h) fun us s1 ⟨vs, H1, I1, r, q⟩ => ⟨I1.kIn, ?_⟩) he hpl
  have r2 : Vals (vs ++ dvs) (us ++ ds) := r.append hd
  have hl : (us ++ ds).length = ps.length := by rw [← r2.length]; exact F.len _ _ _ _ q
  refine wpAny_call (codeAny_mono (F.run X.A X.stack s1 H1 ⟨us, []⟩ (us ++ ds) (vs ++ dvs) Q E hr hgd I1.env0 (hb s1 us I1.kIn hl) r2 q) fun r s' hq => ?_)
  cases r with
  | error e => exact hx pins σ H1 s1 e s' I1 hq
  | ok fl =>
    cases fl with
    | ret u => exact I1.after hq
    | next => exact False.elim hq
    | brk => exact False.elim hq
    | cont => exact False.elim hq
end
/-! ### repr of data -/
/-- data, or a dict without entries -/
inductive Dq (K : PySem.W.Frag) (H : Hp) : V → PyData → Prop
  | of {v : V} {d : PyData} : Dp K H v d → Dq K H v d
  | emp {a : Addr} : H a = some (.dK []) → Dq K H (.ref a) (.dict [])
theorem small_shown {d : PyData} (h : d.shown.length ≤ 1000) : d.shown.length ≤ sizeLine := Nat.le_of_lt (small1000 h)
mutual
theorem dp_nodict {K : PySem.W.Frag} {H : Hp} : ∀ (d : PyData) (v : V), Dp K H v d → d.hasDict = false
  | .none, _, _ => rfl
  | .bool _, _, _ => rfl
  | .int _, _, _ => rfl
  | .str _, _, _ => rfl
  | .list ds, _, h => by
    cases h with
    | lst _ ha => exact dp_nodicts ds _ ha
  | .tuple ds, _, h => by
    cases h with
    | tup _ ha => exact dp_nodicts ds _ ha
  | .dict _, _, h => by cases h
theorem dp_nodicts {K : PySem.W.Frag} {H : Hp} : ∀ (ds : List PyData) (vs : List V), DpAll K H vs ds → PyData.hasDictAll ds = false
  | [], _, _ => rfl
  | d :: ds, _, h => by
    cases h with
    | cons h1 h2 => simp only [PyData.hasDictAll, dp_nodict d _ h1, dp_nodicts ds _ h2, Bool.or_false]
end
def rRepr (K : PySem.W.Frag) : List V → Hp → VK → Prop := fun vs H Q => ∃ (x : V) (d : PyData), vs = [x] ∧ Dq K H x d ∧ d.showable = true ∧ d.depth ≤ 20 ∧ d.shown.length ≤ 1000 ∧ Q (.str d.shown) H
section
variable {X : Cx}
theorem cr_repr (hgd : X.A.guards = some []) (hu : X.A.units + 64 < cLine) : CallR X (.builtin "repr") (rRepr X.K) := by
  intro pins s σ H vs us Q I r h
  obtain ⟨x, d, rfl, hd, hs, hdp, hl, q⟩ := h
  obtain ⟨u, rfl, rx⟩ := vals1 r
  have fin : ∀ h' (t : Tok) tk, (∀ b o, s.heap.get? b = some o → h'.get? b = some o) → EP X pins σ Q (.str d.shown t) { s with heap := h', toks := tk } := fun h' t tk k => ⟨.str d.shown, H, I.kept k, ⟨t, rfl⟩, q⟩
  cases x with
  | non =>
    cases rx
    have e : d = .none := by
      cases hd with
      | of h => cases h; rfl
    subst e
    exact PySem.P.repr_of_none (fin s.heap _ _ fun _ _ e => e)
  | bl b =>
    cases rx
    have e : d = .bool b := by
      cases hd with
      | of h => cases h; rfl
    subst e
    exact PySem.P.repr_of_bool (by
      have z := fin s.heap s.toks (s.toks + 1) fun _ _ e => e
      cases b <;> exact z)
  | int i =>
    obtain ⟨t, rfl⟩ := rx
    have e : d = .int i := by
      cases hd with
      | of h => cases h; rfl
    subst e
    exact PySem.P.repr_of_int (of_decide_eq_true hs) (fin s.heap _ _ fun _ _ e => e)
  | str z =>
    obtain ⟨t, rfl⟩ := rx
    have e : d = .str z := by
      cases hd with
      | of h => cases h; rfl
    subst e
    exact PySem.P.repr_of_str (fin s.heap _ _ fun _ _ e => e) (small_shown hl)
  | ref a =>
    cases rx
    cases hd with
    | of h =>
      obtain ⟨as, rr⟩ := Dp.reads I d (.ref a) (.ref a) h rfl
      exact repr_of_reads' rr hs (PyData.noDict_hsm (dp_nodict d _ h)) hgd (by omega) (fun _ _ e => e) (fun h' t tk k => fin h' t tk k) (small_shown hl)
    | emp h =>
      obtain ⟨_, lo, vs, kv, o, es, ep, ho, ex, hdd, hes, hnd⟩ := I.hok a _ h
      have e1 : vs = [] := by
        cases kv
        rfl
      have lo' : a ≠ sysModules := by simpa using lo
      subst e1
      obtain ⟨pr, _⟩ := hnd
      have e2 : es.toList = [] := by
        cases h5 : es.toList with
        | nil => rfl
        | cons a b => rw [h5] at pr; cases pr
      have rr : Reads s.heap (.ref a) (.dict []) (a :: [] ++ []) := Reads.dict ho ex.1 hdd (by rw [e2]; exact ReadsAll.nil) (by rw [e2]; exact ReadsAll.nil)
      exact repr_of_reads' rr hs (fun _ z => lo' (by have z' : sysModules ∈ [a] := z; exact (List.mem_singleton.mp z').symm)) hgd (by omega) (fun _ _ e => e) (fun h' t tk k => fin h' t tk k) (small_shown hl)
  | byt _ => cases hd with | of h => cases h
  | flt _ => cases hd with | of h => cases h
  | ty _ => cases hd with | of h => cases h
end
end K0

/-! ## F1 -/
set_option maxRecDepth 100000
set_option maxHeartbeats 2000000
namespace K0
open PySem L2
/-! ### is_pair, is_entry, _is_triple -/
structure Glo (K : PySem.W.Frag) (mg : Str → Option Value) (x : Str) (f : Addr) : Prop where
  g : mg x = some (.ref f)
  k : PySem.W.keepIn K (.ref f) = true
theorem isI_few {n : Nat} (h : n ≤ 1000) : isI (.int (n : Int)) = true := by
  show (decide (-big < (n : Int)) && decide ((n : Int) < big)) = true
  have e : big = 10 ^ 60 := by unfold big; rfl
  rw [decide_eq_true (show -big < (n : Int) by omega), decide_eq_true (show (n : Int) < big by omega)]
  rfl
theorem Tu.up {H H' : Hp} {v : V} (d : Da H v) (t : Tu H v) (s : Same H H') : Tu H' v := by
  intro a xs e h
  subst e
  cases d with
  | lst q => rw [s _ _ q] at h; cases h
  | dK q => rw [s _ _ q] at h; cases h
  | tup q =>
    rw [s _ _ q] at h
    injection h with h
    injection h with h
    subst h
    obtain ⟨l, r⟩ := t a _ rfl q
    exact ⟨l, fun x hx => ⟨(r x hx).1.same s, (r x hx).2⟩⟩
theorem onTup_up {H H' : Hp} {v : V} {p : List V → Bool} (d : Da H v) (s : Same H H') : onTup H' p v = onTup H p v := by
  cases d with
  | non => rfl
  | bl b => rfl
  | int i => rfl
  | str x => rfl
  | lst q => simp only [onTup, q, s _ _ q]
  | tup q => simp only [onTup, q, s _ _ q]
  | dK q => simp only [onTup, q, s _ _ q]
/-- whether a value is an entry, for the values that are met -/
inductive EnV (K : PySem.W.Frag) (H : Hp) : V → Bool → Prop
  | other {v : V} {t : Value} (h : TyX K H v t) (k : PySem.W.kitOne K t (.type "tuple") = some false) : EnV K H v false
  | size {a : Addr} {xs : List V} (h : H a = some (.tup xs)) (n : xs.length ≠ 2) : EnV K H (.ref a) false
  | pair {a : Addr} {x y : V} (h : H a = some (.tup [x, y])) (dx : Da H x) (sx : Sz x) (dy : Da H y) (ty : Tu H y) : EnV K H (.ref a) (nameV x && onTup H rowL y)
/-- whether it is a tuple of two -/
inductive PaV (K : PySem.W.Frag) (H : Hp) : V → Bool → Prop
  | other {v : V} {t : Value} (h : TyX K H v t) (k : PySem.W.kitOne K t (.type "tuple") = some false) : PaV K H v false
  | tup {a : Addr} {xs : List V} {b : Bool} (h : H a = some (.tup xs)) (e : b = decide (V.int (xs.length : Int) = V.int 2)) : PaV K H (.ref a) b
abbrev sIsPa : Stmt := top 10
abbrev sIsEn : Stmt := top 16
abbrev sIsTr : Stmt := top 19
def spIsPa (K : PySem.W.Frag) : Sp := fun vs H Q _ => ∃ v b, vs = [v] ∧ PaV K H v b ∧ Q (.bl b) H
def spIsEn (K : PySem.W.Frag) : Sp := fun vs H Q _ => ∃ v b, vs = [v] ∧ EnV K H v b ∧ ∀ H', Same H H' → Q (.bl b) H'
/-- whether a number is a number of times -/
def tmV : V → Bool
  | .int i => isI (.int i) && (decide (1 ≤ i) && decide (i ≤ 64))
  | _ => false
/-- whether a value is a triple -/
inductive TrV (K : PySem.W.Frag) (H : Hp) : V → Bool → Prop
  | other {v : V} {t : Value} (h : TyX K H v t) (k : PySem.W.kitOne K t (.type "tuple") = some false) : TrV K H v false
  | size {a : Addr} {xs : List V} (h : H a = some (.tup xs)) (n : xs.length ≠ 3) : TrV K H (.ref a) false
  | tri {a : Addr} {x y z : V} (h : H a = some (.tup [x, y, z])) (dx : Da H x) (sx : Sz x) (dy : Da H y) (ty : Tu H y) (dz : Da H z) : TrV K H (.ref a) ((nameV x && onTup H rowL y) && tmV z)
def spIsTr (K : PySem.W.Frag) : Sp := fun vs H Q _ => ∃ v b, vs = [v] ∧ TrV K H v b ∧ ∀ H', Same H H' → Q (.bl b) H'
section
variable {P : Program} {w : World} {K : PySem.W.Frag} {mg : Str → Option Value} {base : Heap} {fI fC fW fN : Addr} {fdI fdC fdW fdN : FuncData}
theorem scIsPa : FnScope ["value"] ["value"] (defScope sIsPa) := ⟨rfl, rfl, rfl, by decide +kernel, rfl, by decide +kernel, by decide +kernel⟩
theorem ok_isPa {f : Addr} {fd : FuncData} (F : Fun K "is_pair" "is_pair" sIsPa f fd) (T : T3 K mg fI fC fW fN) : FnOk P w K mg base CX0 1 f fd ["value"] (spIsPa K) := by
  refine F.ok scIsPa (fun vs H Q E h => ?_) (fun cdv A outer s H vs Q E hr h => ?_)
  · obtain ⟨v, b, rfl, _⟩ := h
    rfl
  · obtain ⟨v, b, rfl, c, k⟩ := h
    refine ⟨_, pss_one (ps_ret (pe_and (pe_callB call_isi (by rfl) T.isi (by decide +kernel) (pa_cons (pv 0) (pa_cons (pe_bltn (v := .ty "tuple") (by rfl) T.tup (by decide +kernel) rfl) pa_nil)))
      (pe_one (pe_cmpR op_eq (pe_callB call_len_seq (by rfl) T.len PySem.boot_len (pa_cons (pv 0) pa_nil)) pe_int (nomark _))))), ?_⟩
    cases c with
    | @other _ t h kt => exact ⟨_, rfl, _, _, t, _, false, rfl, .ty _, h, kt, false, rfl, iteF k⟩
    | @tup a xs _ h e =>
      subst e
      exact ⟨_, rfl, _, _, _, _, true, rfl, .ty _, .base (.tup h), kit_ty (by decide +kernel), true, rfl, iteT ⟨_, rfl, a, xs, rfl, .inr (SqT.of h), rfl, k⟩⟩
theorem scIsEn : FnScope ["value"] ["value"] (defScope sIsEn) := ⟨rfl, rfl, rfl, by decide +kernel, rfl, by decide +kernel, by decide +kernel⟩
theorem ok_isEn {f fP fR : Addr} {fd fdP fdR : FuncData} (F : Fun K "is_entry" "is_entry" sIsEn f fd) (T : T3 K mg fI fC fW fN)
    (eP : Glo K mg "is_pair" fP) (GP : FnOk P w K mg base CX0 1 fP fdP ["value"] (spIsPa K)) (bP : Binds K fdP ["value"] [])
    (GN : FnOk P w K mg base CX0 1 fN fdN ["value"] spIsNam) (bN : Binds K fdN ["value"] [])
    (eR : Glo K mg "is_row" fR) (GR : FnOk P w K mg base CX0 3 fR fdR ["value"] spIsRow) (bR : Binds K fdR ["value"] []) :
    FnOk P w K mg base CX0 4 f fd ["value"] (spIsEn K) := by
  refine F.ok scIsEn (fun vs H Q E h => ?_) (fun cdv A outer s H vs Q E hr h => ?_)
  · obtain ⟨v, b, rfl, _⟩ := h
    rfl
  · obtain ⟨v, b, rfl, c, k⟩ := h
    have r1 := hr.mono (show 1 ≤ 3 by decide)
    refine ⟨_, pss_one (ps_ret (pe_and (pe_call GP r1 (by rfl) eP.g eP.k bP .nil pass0 (pa_cons (pv 0) pa_nil))
        (pe_and (pe_call GN r1 (by rfl) T.gN T.kN bN .nil pass0 (pa_cons (pe_ix ix_tup (pv 0) pe_int (fun _ _ => rfl)) pa_nil))
        (pe_one (pe_call GR hr (by rfl) eR.g eR.k bR .nil pass0 (pa_cons (pe_ix ix_tup (pv 0) pe_int (fun _ _ => rfl)) pa_nil)))))), ?_⟩
    cases c with
    | @other _ t h kt => exact ⟨_, rfl, _, _, rfl, .other h kt, false, rfl, iteF (k H Same.rfl')⟩
    | @size a xs h n =>
      have z : ¬ V.int (xs.length : Int) = V.int 2 := fun q => by
        injection q with q
        omega
      exact ⟨_, rfl, _, false, rfl, .tup h (decide_eq_false z).symm, false, rfl, iteF (k H Same.rfl')⟩
    | @pair a x y h dx sx dy ty =>
      refine ⟨_, rfl, _, true, rfl, .tup h rfl, true, rfl, iteT ?_⟩
      refine ⟨_, rfl, a, _, _, x, rfl, rfl, SqT.of h, rfl, x, rfl, dx, sx, fun H1 s1 => ⟨_, rfl, ?_⟩⟩
      by_cases c1 : nameV x = true
      · refine if_pos_of c1 ?_
        have h1 := s1 _ _ h
        refine ⟨_, rfl, a, _, _, y, rfl, rfl, SqT.of h1, rfl, y, rfl, dy.same s1, ty.up dy s1, fun H2 s2 => ?_⟩
        have k2 := k H2 (Same.tr s1 s2)
        rw [c1, Bool.true_and] at k2
        rw [onTup_up dy s1]
        exact k2
      · have c1' := Bool.eq_false_iff.mpr c1
        refine if_neg_of c1' ?_
        have k2 := k H1 s1
        rw [c1'] at k2
        exact k2
theorem cut2 (x y z : V) : cutV [x, y, z] none (some 2) = [x, y] := rfl
theorem scIsTr : FnScope ["value"] ["value"] (defScope sIsTr) := ⟨rfl, rfl, rfl, by decide +kernel, rfl, by decide +kernel, by decide +kernel⟩
theorem ok_isTr {f fE : Addr} {fd fdE : FuncData} (F : Fun K "_is_triple" "_is_triple" sIsTr f fd) (T : T3 K mg fI fC fW fN) (most : ∃ t, mg "MAX_TIMES" = some (.int 64 t))
    (eE : Glo K mg "is_entry" fE) (GE : FnOk P w K mg base CX0 4 fE fdE ["value"] (spIsEn K)) (bE : Binds K fdE ["value"] [])
    (GI : FnOk P w K mg base CX0 1 fI fdI ["value"] spIsInt) (bI : Binds K fdI ["value"] []) : FnOk P w K mg base CX0 5 f fd ["value"] (spIsTr K) := by
  refine F.ok scIsTr (fun vs H Q E h => ?_) (fun cdv A outer s H vs Q E hr h => ?_)
  · obtain ⟨v, b, rfl, _⟩ := h
    rfl
  · obtain ⟨v, b, rfl, c, k⟩ := h
    obtain ⟨tm, hm⟩ := most
    have r1 := hr.mono (show 1 ≤ 4 by decide)
    refine ⟨_, pss_cons (ps_if (pw_or (pt_not (pt_val (pe_callB call_isi (by rfl) T.isi (by decide +kernel) (pa_cons (pv 0) (pa_cons (pe_bltn (v := .ty "tuple") (by rfl) T.tup (by decide +kernel) rfl) pa_nil)))))
        (pw_or (pt_cmpR op_ne (pe_callB call_len_seq (by rfl) T.len PySem.boot_len (pa_cons (pv 0) pa_nil)) pe_int (nomark _))
        (pw_or1 (pt_not (pt_val (pe_call GE hr (by rfl) eE.g eE.k bE .nil pass0 (pa_cons (pe_slice sl_tup (pv 0) po_none (po_some pe_int)) pa_nil))))))).pt
        (pss_one (ps_ret pe_bl)) pss_nil)
      (pss_one (ps_ret (pe_and (pe_call GI r1 (by rfl) T.gI T.kI bI .nil pass0 (pa_cons (pe_ix ix_tup (pv 0) pe_int (fun _ _ => rfl)) pa_nil))
        (pe_one (pe_chain op_le op_le pe_int (pe_ix ix_tup (pv 0) pe_int (fun _ _ => rfl)) (pe_glob (v := .int 64) (by rfl) hm ⟨tm, rfl⟩)))))), ?_⟩
    cases c with
    | @other _ t h kt => exact ⟨_, rfl, _, _, t, _, false, rfl, .ty _, h, kt, false, rfl, if_pos_of rfl (k H Same.rfl')⟩
    | @size a xs h n =>
      have z : ¬ V.int (xs.length : Int) = V.int 3 := fun q => by
        injection q with q
        omega
      have z2 : (!decide (V.int (xs.length : Int) = V.int 3)) = true := by rw [decide_eq_false z]; rfl
      refine ⟨_, rfl, _, _, _, _, true, rfl, .ty _, .base (.tup h), kit_ty (by decide +kernel), true, rfl, if_neg_of rfl ⟨_, rfl, a, xs, rfl, .inr (SqT.of h), ?_⟩⟩
      refine ⟨rfl, _, rfl, if_pos_of ?_ (k H Same.rfl')⟩
      exact z2
    | @tri a x y z h dx sx dy ty dz =>
      refine ⟨_, rfl, _, _, _, _, true, rfl, .ty _, .base (.tup h), kit_ty (by decide +kernel), true, rfl, if_neg_of rfl ⟨_, rfl, a, [x, y, z], rfl, .inr (SqT.of h), ?_⟩⟩
      refine ⟨rfl, _, rfl, if_neg_of rfl ?_⟩
      refine ⟨_, rfl, 2, rfl, a, [x, y, z], rfl, SqT.of h, fun q => absurd (show HT.sIx 3 3 (some 2) = 3 from q.2) (by decide), fun b hb => ?_⟩
      rw [cut2]
      have s1 : Same H (upd H b (.tup [x, y])) := Same.new _ hb
      refine ⟨_, _, rfl, .pair upd_same (dx.same s1) sx (dy.same s1) (ty.up dy s1), fun H1 s2 => ⟨_, rfl, ?_⟩⟩
      have s3 := Same.tr s1 s2
      rw [onTup_up dy s1]
      generalize (nameV x && onTup H rowL y) = c at k
      cases c with
      | false => exact if_pos_of rfl (k H1 s3)
      | true =>
        refine if_neg_of rfl ⟨_, rfl, a, _, _, z, rfl, rfl, SqT.of (s3 _ _ h), rfl, z, rfl, dz.same s3, isI z, rfl, ?_⟩
        rw [Bool.true_and] at k
        by_cases c1 : isI z = true
        · obtain ⟨i, rfl⟩ := isI_int c1
          have e : tmV (.int i) = (decide (1 ≤ i) && decide (i ≤ 64)) := by show (isI (.int i) && _) = _; rw [c1]; rfl
          rw [e] at k
          refine if_pos_of c1 ⟨_, rfl, a, _, _, .int i, rfl, rfl, SqT.of (s3 _ _ h), rfl, _, _, rfl, rfl, _, rfl, ?_⟩
          by_cases c2 : 1 ≤ i
          · rw [decide_eq_true c2] at k
            exact if_pos_of (decide_eq_true c2) ⟨_, _, rfl, rfl, k H1 s3⟩
          · rw [decide_eq_false c2] at k
            exact if_neg_of (decide_eq_false c2) (k H1 s3)
        · have c' := Bool.eq_false_iff.mpr c1
          refine if_neg_of c' ?_
          have e : tmV z = false := by
            cases z with
            | int i => show (isI (.int i) && _) = false; rw [c']; rfl
            | _ => rfl
          rw [e] at k
          exact k H1 s3
end
end K0

/-! ## N1 -/
set_option maxRecDepth 100000
set_option maxHeartbeats 2000000
/-! N1: what the machine asks of a key of any depth: its hash, its ==, whether it can be seen -/
namespace NS
open PySem PySem.Spec PyProof.Rows L2
/-- at b stands a tuple that is the key k -/
def At (h : Heap) (k : NestedKey) (b : Addr) : Prop := NestedIs h k (.ref b) ∧ k.depth ≤ 8
theorem At.grow {h h' : Heap} {k : NestedKey} {b : Addr} (x : At h k b) (g : ∀ c o, h.get? c = some o → h'.get? c = some o) : At h' k b :=
  ⟨NestedIs.at (fun c o _ _ e _ => g c o e) k _ x.1, x.2⟩
theorem At.one {h : Heap} {k l : NestedKey} {b : Addr} (x : At h k b) (y : At h l b) : k = l := NestedIs.inj _ _ _ x.1 y.1
/-- only a set has changed -/
theorem At.past {h h' : Heap} {k : NestedKey} {a b : Addr} {o : Obj} {rs : Array (Int × Value)} {n : Nat} {t : SetTable} (x : At h k b) (ho : h.get? a = some o) (hd : o.data = .set rs n t) (sb : Heap.SameBut a h h') : At h' k b :=
  ⟨NestedIs.at (fun c u vs m e z => by
    have ne : c ≠ a := fun q => by
      rw [q, ho] at e
      cases e
      rw [hd] at z
      cases z
    exact (sb.2 c ne).trans e) k _ x.1, x.2⟩
section
variable {P : Program} {w : World} {s : Shared}
/-- no class stands in it -/
def NoCls (P : Program) (w : World) (n : Nat) (s : Shared) (v : Value) : Prop := ∀ (A : Around) (E : Value → Shared → Prop) (Q : Bool → Shared → Prop), Q false s → wpAny (model P w) A (ofAClassStatement n v) Q E s
theorem noCls_val {n : Nat} {v : Value} (h : ∀ a, v ≠ .ref a) : NoCls P w n s v := fun A E Q q => by
  cases v with
  | ref a => exact absurd rfl (h a)
  | _ => cases n <;> exact wpAny_pure q
theorem noCls_tup {n : Nat} {a : Addr} {o : Obj} {vs : Array Value} {m : Nat} (ho : s.heap.get? a = some o) (hc : o.cls = .type "tuple") (hd : o.data = .seq vs m) (each : ∀ v ∈ vs.toList, NoCls P w n s v) : NoCls P w (n + 1) s (.ref a) := fun A E Q q => by
  have isT : s.TypeIs (.ref a) "tuple" := ⟨o, ho, hc⟩
  have e : (("tuple" : String) == "tuple") = true := by decide
  unfold ofAClassStatement
  refine wpAny_bind (wpAny_typeOf isT ?_)
  dsimp only
  simp only [e, if_true, Bool.not_true, Bool.false_eq_true, if_false]
  try refine wpAny_bind (wpAny_pure ?_)
  try simp only [Bool.not_true, Bool.false_eq_true, if_false]
  show wpAny _ _ (seqItems? (.ref a) >>= _) _ _ s
  refine wpAny_bind (wpAny_seqItems ho hd ?_)
  dsimp only
  refine wpAny_bind ?_
  show wpAny _ _ (forIn vs _ _) _ _ s
  rw [← Array.forIn_toList]
  refine wpAny_forIn_list _ (fun left r s1 => s1 = s ∧ r.1 = none ∧ ∀ v ∈ left, NoCls P w n s v) _ (fun v left r s1 z => ?_) (fun r s1 z => ?_) _ _ ⟨rfl, rfl, each⟩
  · obtain ⟨rfl, hr, al⟩ := z
    refine wpAny_bind (al v List.mem_cons_self _ _ _ ?_)
    simp only [Bool.false_eq_true, if_false]
    exact wpAny_pure ⟨rfl, rfl, fun u hu => al u (List.mem_cons_of_mem _ hu)⟩
  · obtain ⟨r1, r2⟩ := r
    obtain ⟨rfl, hr, _⟩ := z
    simp only at hr
    subst hr
    exact wpAny_pure q
mutual
theorem noCls : ∀ (k : NestedKey) (v : Value) (n : Nat), NestedIs s.heap k v → k.depth ≤ n → NoCls P w n s v
  | .none, _, _, x, _ => by cases x; exact noCls_val fun _ z => by cases z
  | .num _, _, _, x, _ => by cases x <;> exact noCls_val fun _ z => by cases z
  | .text _, _, _, x, _ => by cases x; exact noCls_val fun _ z => by cases z
  | .tup ks, _, n, x, hn => by
    simp only [NestedKey.depth] at hn
    cases x with
    | tup h1 h2 h3 h4 =>
      match n, hn with
      | n + 1, hn => exact noCls_tup h1 h2 h3 (noClss ks _ n h4 (by omega))
theorem noClss : ∀ (ks : List NestedKey) (vs : List Value) (n : Nat), NestedAll s.heap ks vs → NestedKey.depthAll ks ≤ n → ∀ v ∈ vs, NoCls P w n s v
  | [], _, _, x, _, v, hv => by cases x; cases hv
  | k :: ks, _, n, x, hn, v, hv => by
    simp only [NestedKey.depthAll] at hn
    cases x with
    | cons x1 x2 =>
      rcases List.mem_cons.mp hv with e | hv
      · rw [e]
        exact noCls k _ n x1 (by omega)
      · exact noClss ks _ n x2 (by omega) v hv
end
/-- whether its hash hangs on its value alone: some answer -/
def ByVal (P : Program) (w : World) (n : Nat) (s : Shared) (v : Value) : Prop := ∀ (A : Around) (E : Value → Shared → Prop) (Q : Bool → Shared → Prop), (∀ b, Q b s) → wpAny (model P w) A (hashByValue n v) Q E s
theorem byVal_tup {n : Nat} {a : Addr} {o : Obj} {vs : Array Value} {m : Nat} (ho : s.heap.get? a = some o) (hc : o.cls = .type "tuple") (hd : o.data = .seq vs m) (each : ∀ v ∈ vs.toList, ByVal P w n s v) : ByVal P w (n + 1) s (.ref a) := fun A E Q q => by
  have isT : s.TypeIs (.ref a) "tuple" := ⟨o, ho, hc⟩
  unfold hashByValue
  refine wpAny_bind (wpAny_specialOf isT F.slot_tuple_hash.lookup ?_)
  show wpAny _ _ (seqItems? (.ref a) >>= _) _ _ s
  refine wpAny_bind (wpAny_seqItems ho hd ?_)
  refine wpAny_bind ?_
  show wpAny _ _ (forIn vs _ _) _ _ s
  rw [← Array.forIn_toList]
  refine wpAny_forIn_list _ (fun left r s1 => s1 = s ∧ r.1 = none ∧ ∀ v ∈ left, ByVal P w n s v) _ (fun v left r s1 z => ?_) (fun r s1 z => ?_) _ _ ⟨rfl, rfl, each⟩
  · obtain ⟨rfl, hr, al⟩ := z
    refine wpAny_bind (al v List.mem_cons_self _ _ _ fun b => ?_)
    cases b with
    | true =>
      simp only [Bool.not_true, Bool.false_eq_true, if_false]
      exact wpAny_pure ⟨rfl, rfl, fun u hu => al u (List.mem_cons_of_mem _ hu)⟩
    | false =>
      simp only [Bool.not_false, if_true]
      refine wpAny_pure ?_
      exact wpAny_pure (q false)
  · obtain ⟨r1, r2⟩ := r
    obtain ⟨rfl, hr, _⟩ := z
    simp only at hr
    subst hr
    exact wpAny_pure (q true)
mutual
theorem byVal : ∀ (k : NestedKey) (v : Value) (n : Nat), NestedIs s.heap k v → k.depth ≤ n → ByVal P w n s v
  | .none, _, n, x, _ => by cases x; exact fun A E Q q => by cases n <;> exact wpAny_pure (q _)
  | .num _, _, n, x, _ => by cases x <;> exact fun A E Q q => by cases n <;> exact wpAny_pure (q _)
  | .text _, _, n, x, _ => by cases x; exact fun A E Q q => by cases n <;> exact wpAny_pure (q _)
  | .tup ks, _, n, x, hn => by
    simp only [NestedKey.depth] at hn
    cases x with
    | tup h1 h2 h3 h4 =>
      match n, hn with
      | n + 1, hn => exact byVal_tup h1 h2 h3 (byVals ks _ n h4 (by omega))
theorem byVals : ∀ (ks : List NestedKey) (vs : List Value) (n : Nat), NestedAll s.heap ks vs → NestedKey.depthAll ks ≤ n → ∀ v ∈ vs, ByVal P w n s v
  | [], _, _, x, _, v, hv => by cases x; cases hv
  | k :: ks, _, n, x, hn, v, hv => by
    simp only [NestedKey.depthAll] at hn
    cases x with
    | cons x1 x2 =>
      rcases List.mem_cons.mp hv with e | hv
      · rw [e]
        exact byVal k _ n x1 (by omega)
      · exact byVals ks _ n x2 (by omega) v hv
end
variable {A : Around} {E : Value → Shared → Prop}
/-- looking for one key among others cannot be seen -/
theorem unseen {k : NestedKey} {b : Addr} (x : At s.heap k b) {ys : List Value} (al : ∀ y ∈ ys, ∃ l c, y = Value.ref c ∧ At s.heap l c) {Q : Bool → Shared → Prop} (q : Q false s) : wpAny (model P w) A (searchCouldBeSeen (.ref b) ys) Q E s := by
  unfold searchCouldBeSeen
  refine wpAny_bind ?_
  refine wpAny_forIn_list _ (fun left r s1 => s1 = s ∧ r.1 = none ∧ ∀ y ∈ left, ∃ l c, y = Value.ref c ∧ At s.heap l c) _ (fun y left r s1 z => ?_) (fun r s1 z => ?_) _ _ ⟨rfl, rfl, al⟩
  · obtain ⟨rfl, hr, more⟩ := z
    obtain ⟨l, c, rfl, y⟩ := more y List.mem_cons_self
    have further : ∀ u ∈ left, ∃ l c, u = Value.ref c ∧ At s1.heap l c := fun u hu => more u (List.mem_cons_of_mem _ hu)
    dsimp only
    by_cases same : (b == c || (carriedByValue (.ref b) && carriedByValue (.ref c))) = true
    · exact wp_if_pos same (wpAny_pure ⟨rfl, rfl, further⟩)
    · refine wp_if_neg same ?_
      refine wpAny_bind ((nestedKind P w).quiet x ?_)
      simp only [Bool.not_true, Bool.false_eq_true, if_false]
      refine wpAny_bind ((nestedKind P w).quiet y ?_)
      simp only [Bool.not_true, Bool.false_eq_true, if_false]
      refine wpAny_bind (noCls k _ 8 x.1 x.2 _ _ _ ?_)
      simp only [Bool.false_eq_true, if_false]
      refine wpAny_bind (noCls l _ 8 y.1 y.2 _ _ _ ?_)
      simp only [Bool.false_eq_true, if_false]
      exact wpAny_pure ⟨rfl, rfl, further⟩
  · obtain ⟨r1, r2⟩ := r
    obtain ⟨rfl, hr, _⟩ := z
    simp only at hr
    subst hr
    exact wpAny_pure q
end
end NS

/-! ## N2 -/
set_option maxRecDepth 100000
set_option maxHeartbeats 2000000
/-! N2: a set of keys of any depth: one is looked for, one is put in -/
namespace NS
open PySem PySem.Spec PyProof.Rows L2
abbrev Row : Type := Addr × NestedKey
abbrev hs (w : World) (M : List Row) : List Int := M.map fun m => m.2.hash w
abbrev inners (w : World) (M : List Row) : List (Int × Value) := M.map fun m => (m.2.hash w, Value.ref m.1)
/-- at a stands a set of these keys, in the order of its table -/
structure Holds (w : World) (h : Heap) (a : Addr) (M : List Row) (rs : Array (Int × Value)) (n : Nat) (t : SetTable) : Prop where
  obj : ∃ o, h.get? a = some o ∧ o.ExactSet ∧ o.data = .set rs n t
  is : rs.toList = inners w M
  tab : TabOk t (hs w M)
  nd : (M.map (·.2)).Nodup
  led : w.params.followText "set-order" = true ∨ t.led = true
  room : M.length * 5 < t.mask * 3
  few : M.length < 64
abbrev Keys (h : Heap) (M : List Row) : Prop := ∀ m ∈ M, At h m.2 m.1
theorem Keys.grow {h h' : Heap} {M : List Row} (x : Keys h M) (g : ∀ c o, h.get? c = some o → h'.get? c = some o) : Keys h' M := fun m hm => (x m hm).grow g
section
variable {P : Program} {w : World} {A : Around} {E : Value → Shared → Prop} {s : Shared} {a : Addr} {M : List Row} {rs : Array (Int × Value)} {n : Nat} {t : SetTable}
theorem size_of {rs : Array (Int × Value)} {M : List Row} (e : rs.toList = inners w M) : rs.size = M.length := by
  rw [← Array.length_toList, e, List.length_map]
theorem fits_of (e : rs.size = M.length) (T : TabOk t (hs w M)) (r : M.length ≤ t.mask) : t.fits rs.size = true := by
  have z := T.sz
  rw [List.length_map] at z
  unfold SetTable.fits SetTable.fill
  rw [T.dm, Bool.and_eq_true, beq_iff_eq, decide_eq_true_eq, e, ← z]
  exact ⟨rfl, by show t.place.size + 0 ≤ t.mask; omega⟩
theorem Holds.fits {h : Heap} (S : Holds w h a M rs n t) : t.fits rs.size = true := fits_of (size_of S.is) S.tab (by have := S.room; omega)
theorem at_of (e : rs.toList = inners w M) {i : Nat} {m : Row} (hm : M[i]? = some m) : rs[i]? = some (m.2.hash w, Value.ref m.1) := by
  have z : (inners w M)[i]? = some (m.2.hash w, Value.ref m.1) := by rw [List.getElem?_map, hm] <;> rfl
  rw [← e, Array.getElem?_toList] at z
  exact z
/-- the c-th state of a search for the hash g -/
abbrev stand (t : SetTable) (g : Int) (c : Nat) : SetTable.Probe := nth t.mask (runAt t.mask (SetTable.bits g % (t.mask + 1)) (SetTable.bits g)) c
theorem stand_add (t : SetTable) (g : Int) (c q : Nat) : nth t.mask (stand t g c) q = stand t g (c + q) := (nth_add t.mask c _ q).symm
theorem no_dummy (m : Nat) : ∀ (c : Nat) (p : SetTable.Probe), p.dummy = none → (nth m p c).dummy = none
  | 0, _, h => h
  | c + 1, p, h => no_dummy m c (adv m p) (by unfold adv; split <;> exact h)
/-- the keys that are sought stand further on -/
def Ahead (t : SetTable) (w : World) (M : List Row) (k : NestedKey) (c L : Nat) : Prop := ∀ (i : Nat) (m : Row), M[i]? = some m → m.2 = k → ∃ d, c ≤ d ∧ d < L ∧ t.place.toList[i]? = some (way t.mask (k.hash w) d)
theorem seek (S : Holds w s.heap a M rs n t) (kx : Keys s.heap M) {k : NestedKey} {b : Addr} (x : At s.heap k b) (hu : A.units + 8 < cLine) {L : Nat} (short : L < 10 * SetTable.turns t.mask)
    (free : way t.mask (k.hash w) L ∉ t.place.toList) (busy : ∀ d, d < L → way t.mask (k.hash w) d ∈ t.place.toList) {Q : SetFound → Shared → Prop} (yes : k ∈ M.map (·.2) → Q (.there none) s)
    (no : k ∉ M.map (·.2) → Q (.free (way t.mask (k.hash w) L) false) s) :
    ∀ (f c : Nat) (from' : Option SetTable.Probe), from'.getD (t.probeStart (k.hash w)) = stand t (k.hash w) c → c ≤ L → L - c < f → Ahead t w M k c L → wpAny (model P w) A (setSearchFrom a (.ref b) (k.hash w) true f from') Q E s := by
  obtain ⟨o, ho, hex, hd⟩ := S.obj
  have sz : t.place.toList.length = M.length := by
    have z := S.tab.sz
    rw [List.length_map] at z
    exact z
  have key : ∀ i, i < M.length → (rs[i]?.map (·.1)).getD 0 = ((M[i]?.map fun m => m.2.hash w).getD 0) := fun i hi => by
    rw [at_of S.is (List.getElem?_eq_getElem hi), List.getElem?_eq_getElem hi] <;> rfl
  intro f
  induction f with
  | zero => intro c _ _ _ z; exact absurd z (Nat.not_lt_zero _)
  | succ f ih =>
    intro c from' hst hc hf ahead
    rw [setSearchFrom_succ]
    refine wpAny_bind (wpAny_setState_of ho hd S.fits ?_)
    dsimp only
    refine wp_if_neg (by unfold SetTable.gaveWay; rw [mask_odd S.tab.mok]; decide) ?_
    try refine wpAny_bind (wpAny_pure ?_)
    rw [hst]
    have spec := go_spec t S.tab.ris S.tab.dm (fun i => (rs[i]?.map (·.1)).getD 0) (k.hash w) (10 * SetTable.turns t.mask) (L - c) (stand t (k.hash w) c) (no_dummy _ c _ rfl) (by omega)
      (fun q hq => by rw [stand_add]; exact busy (c + q) (by omega)) (by rw [stand_add, show c + (L - c) = L by omega]; exact free)
    rcases spec with ⟨q, i, hq, hi, hh, earlier, found⟩ | ⟨nowhere, found⟩
    · rw [stand_add] at hi
      have hil : i < M.length := by rw [← sz]; exact (List.getElem?_eq_some_iff.mp hi).1
      obtain ⟨m, hm⟩ : ∃ m, M[i]? = some m := ⟨_, List.getElem?_eq_getElem hil⟩
      have mM : m ∈ M := List.mem_of_getElem? hm
      have live : t.slot (way t.mask (k.hash w) (c + q)) = .live i := slot_live S.tab.ris hi
      rw [stand_add, stand_add] at found
      rw [show t.probe (fun i => (rs[i]?.map (·.1)).getD 0) (k.hash w) (stand t (k.hash w) c) = _ from found]
      dsimp only
      have rest : wpAny (model P w) A (searchRest a (.ref b) (k.hash w) true f rs t (way t.mask (k.hash w) (c + q)) i (stand t (k.hash w) (c + (q + 1)))) Q E s := by
        unfold searchRest
        rw [at_of S.is hm]
        dsimp only
        refine wpAny_bind (wpAny_holding ((nestedKind P w).eqBool hu (kx m mM) x ?_))
        refine wpAny_bind (wpAny_setState_of ho hd S.fits ?_)
        dsimp only
        by_cases same : m.2 = k
        · exact wp_if_pos (by simp [same]) (wpAny_pure (yes (List.mem_map.mpr ⟨m, mM, same⟩)))
        · refine wp_if_neg (by simp [same]) ?_
          try refine wpAny_bind (wpAny_pure ?_)
          rw [sameMem]
          dsimp only
          simp only [if_true, live, at_of S.is hm]
          refine wpAny_bind (wpAny_isSame_ref_self (wpAny_bind (wpAny_pure ?_)))
          simp only [if_true]
          refine wp_if_neg (by simp [same]) (ih (c + (q + 1)) _ rfl (by omega) (by omega) fun j m' hj ej => ?_)
          obtain ⟨d, d1, d2, d3⟩ := ahead j m' hj ej
          refine ⟨d, ?_, d2, d3⟩
          have hjl : j < M.length := (List.getElem?_eq_some_iff.mp hj).1
          rcases Nat.lt_trichotomy d (c + q) with z | z | z
          · exfalso
            refine earlier (d - c) j (by omega) (by rw [stand_add, show c + (d - c) = d by omega]; exact d3) ?_
            rw [key j hjl, hj]
            show m'.2.hash w = k.hash w
            rw [ej]
          · exfalso
            rw [z] at d3
            have other := slot_live S.tab.ris d3
            rw [live] at other
            injection other with other
            rw [← other, hm] at hj
            cases hj
            exact same ej
          · omega
      by_cases hl : t.led = true
      · refine wp_if_neg (by simp [hl]) ?_
        try refine wpAny_bind (wpAny_pure ?_)
        exact rest
      · refine wp_if_pos (by simp [hl]) (wpAny_bind (unseen x (fun y hy => ?_) ?_))
        · obtain ⟨e, he, ee⟩ := List.mem_map.mp hy
          have he1 : e ∈ rs ∧ e.1 = k.hash w := by simpa using he
          have he2 : e ∈ rs.toList := by simpa using he1.1
          rw [S.is] at he2
          obtain ⟨m', hm', em⟩ := List.mem_map.mp he2
          exact ⟨m'.2, m'.1, by rw [← ee, ← em], kx m' hm'⟩
        · refine wp_if_neg (by decide) ?_
          try refine wpAny_bind (wpAny_pure ?_)
          exact rest
    · rw [stand_add, show c + (L - c) = L by omega] at found
      rw [show t.probe (fun i => (rs[i]?.map (·.1)).getD 0) (k.hash w) (stand t (k.hash w) c) = _ from found]
      dsimp only
      refine wpAny_pure (no fun z => ?_)
      obtain ⟨m, mM, em⟩ := List.mem_map.mp z
      obtain ⟨j, hjl, ej⟩ := List.getElem_of_mem mM
      have hj : M[j]? = some m := by rw [List.getElem?_eq_getElem hjl, ej]
      obtain ⟨d, d1, d2, d3⟩ := ahead j m hj em
      refine nowhere (d - c) j (by omega) (by rw [stand_add, show c + (d - c) = d by omega]; exact d3) ?_
      rw [key j hjl, hj]
      show m.2.hash w = k.hash w
      rw [em]
/-- the search of an adding -/
theorem seek_all (S : Holds w s.heap a M rs n t) (kx : Keys s.heap M) {k : NestedKey} {b : Addr} (x : At s.heap k b) (hu : A.units + 8 < cLine) {Q : SetFound → Shared → Prop} (yes : k ∈ M.map (·.2) → Q (.there none) s)
    (no : ∀ L, k ∉ M.map (·.2) → way t.mask (k.hash w) L ∉ t.place.toList → (∀ d, d < L → way t.mask (k.hash w) d ∈ t.place.toList) → Q (.free (way t.mask (k.hash w) L) false) s) :
    wpAny (model P w) A (setSearch a (.ref b) (k.hash w) true) Q E s := by
  have few := S.room
  obtain ⟨L, l1, l2, l3⟩ := S.tab.first (by rw [List.length_map]; omega) (k.hash w)
  have small : L < 2000 := by
    unfold SetTable.turns at l1
    rcases S.tab.mok with e | e | e <;> omega
  unfold setSearch
  refine seek S kx x hu l1 l2 l3 yes (fun z => no L z l2 l3) 100000 0 none rfl (Nat.zero_le _) (by omega) fun i m hm e => ?_
  have hh : (hs w M)[i]? = some (k.hash w) := by rw [List.getElem?_map, hm, ← e] <;> rfl
  have z := S.tab.sz
  rw [List.length_map] at z
  have hil : i < t.place.toList.length := by
    rw [Array.length_toList, z]
    exact (List.getElem?_eq_some_iff.mp hm).1
  obtain ⟨d, d1, d2⟩ := S.tab.before l2 hh (List.getElem?_eq_getElem hil)
  exact ⟨d, Nat.zero_le _, d1, by rw [List.getElem?_eq_getElem hil, d2]⟩
end
end NS

/-! ## N3 -/
set_option maxRecDepth 100000
set_option maxHeartbeats 2000000
/-! N3: the table laid anew; one key put in -/
namespace NS
open PySem PySem.Spec PyProof.Rows L2
/-! ### lists read in another order -/
theorem pick_map {α β : Type} (f : α → β) (l : List α) : ∀ js : List Nat, (js.filterMap fun j => (l.map f)[j]?) = (js.filterMap fun j => l[j]?).map f
  | [] => rfl
  | j :: js => by
    have ih := pick_map f l js
    cases e : l[j]? with
    | none =>
      rw [List.filterMap_cons_none (by rw [List.getElem?_map, e] <;> rfl), List.filterMap_cons_none e, ih]
    | some x =>
      rw [List.filterMap_cons_some (b := f x) (by rw [List.getElem?_map, e] <;> rfl), List.filterMap_cons_some e, List.map_cons, ih]
theorem pick_all {α : Type} : ∀ l : List α, ((List.range l.length).filterMap fun j => l[j]?) = l := by
  intro l
  have up : ∀ m, m ≤ l.length → ((List.range m).filterMap fun j => l[j]?) = l.take m := by
    intro m
    induction m with
    | zero => intro _; rfl
    | succ m ih =>
      intro hm
      have hl := List.getElem?_eq_getElem (l := l) hm
      rw [List.range_succ, List.filterMap_append, ih (Nat.le_of_succ_le hm), List.take_succ, List.filterMap_cons_some hl, hl] <;> rfl
  rw [up _ (Nat.le_refl _), List.take_length]
theorem pick_perm {α : Type} {l : List α} {js : List Nat} (p : js.Perm (List.range l.length)) : (js.filterMap fun j => l[j]?).Perm l := by
  have z := p.filterMap fun j => l[j]?
  rw [pick_all] at z
  exact z
theorem pick_getD {α : Type} (d : α) (l : List α) : ∀ js : List Nat, (∀ j ∈ js, j < l.length) → (js.filterMap fun j => l[j]?) = js.map fun j => l.getD j d
  | [], _ => rfl
  | j :: js, h => by
    have hj := List.getElem?_eq_getElem (l := l) (h j List.mem_cons_self)
    rw [List.filterMap_cons_some hj, List.map_cons, pick_getD d l js fun i hi => h i (List.mem_cons_of_mem _ hi), List.getD_eq_getElem?_getD, hj] <;> rfl
section
variable {P : Program} {w : World} {A : Around} {E : Value → Shared → Prop} {s : Shared} {a : Addr} {M : List Row} {rs : Array (Int × Value)} {n : Nat} {t : SetTable}
theorem keep_tab {g : List Int} (T : TabOk t g) (b : Bool) : TabOk { t with plain := b } g := ⟨T.ris, T.dm, T.sz, T.mok, T.bd, T.reach⟩
theorem again_laid {o : Obj} (ho : s.heap.get? a = some o) (hex : o.ExactSet) (hd : o.data = .set rs n t) (is : rs.toList = inners w M) (T : TabOk t (hs w M)) (fit : M.length ≤ t.mask) (nd : (M.map (·.2)).Nodup)
    (ld : w.params.followText "set-order" = true ∨ t.led = true) (few : M.length < 64) {wanted m : Nat} (e1 : SetTable.sizeAbove wanted - 1 = m) (e2 : MaskOk m) (e3 : SetTable.sizeAbove wanted ≤ 128) (room : M.length * 5 < m * 3) {Q : Unit → Shared → Prop}
    (q : ∀ h' M' rs' n' t', Heap.SameBut a s.heap h' → Holds w h' a M' rs' n' t' → M'.Perm M → Q () { s with heap := h' }) : wpAny (model P w) A (setRelay a wanted) Q E s := by
  have sz := size_of is
  have msz : (rs.map (·.1)).size = M.length := by rw [Array.size_map, sz]
  obtain ⟨t', order, r1, r2, r3, r4, r5, r6, r7⟩ := relaid_ok t (hs := rs.map (·.1)) (wanted := wanted) e1 e2 (by rw [msz]; omega)
  rw [msz] at r2
  have small : ∀ j ∈ order.toList, j < M.length := fun j hj => List.mem_range.mp (r2.mem_iff.mp hj)
  -- the rows in their new order
  have new : (order.filterMap (rs[·]?)).toList = inners w (order.toList.filterMap fun j => M[j]?) := by
    have z : (order.filterMap (rs[·]?)).toList = order.toList.filterMap fun j => rs[j]? := by first | exact Array.toList_filterMap | simp
    rw [z]
    have z2 : (order.toList.filterMap fun j => rs[j]?) = order.toList.filterMap fun j => (inners w M)[j]? := by
      congr 1
      funext j
      rw [← is, Array.getElem?_toList]
    rw [z2]
    exact pick_map _ M _
  have pm : (order.toList.filterMap fun j => M[j]?).Perm M := pick_perm r2
  have hh : (order.toList.map fun j => (rs.map (·.1)).getD j 0) = hs w (order.toList.filterMap fun j => M[j]?) := by
    have z : (rs.map (·.1)).toList = hs w M := by
      rw [Array.toList_map, is, List.map_map] <;> rfl
    have z2 : (order.toList.map fun j => (rs.map (·.1)).getD j 0) = order.toList.map fun j => (hs w M).getD j 0 := by
      congr 1
      funext j
      rw [← z]
      simp [Array.getD_eq_getD_getElem?, List.getD_eq_getElem?_getD]
    rw [z2, ← pick_getD 0 (hs w M) order.toList fun j hj => by rw [List.length_map]; exact small j hj]
    exact pick_map _ M _
  rw [hh] at r3
  generalize (order.toList.filterMap fun j => M[j]?) = M' at new pm r3
  have len := pm.length_eq
  have sz2 : (order.filterMap (rs[·]?)).size = rs.size := by rw [size_of new, len, sz]
  rw [setRelay_eq]
  refine wpAny_bind (wpAny_setState_of ho hd (fits_of sz T fit) ?_)
  dsimp only
  refine wp_if_neg (by rw [sizeLine_eq]; omega) ?_
  try refine wpAny_bind (wpAny_pure ?_)
  rw [r1]
  dsimp only
  refine wpAny_bind ?_
  refine wp_if_neg (by rw [sz2]; simp) ?_
  try refine wpAny_bind (wpAny_pure ?_)
  refine wpAny_pure ?_
  dsimp only
  refine wpAny_storeSet_of ho hd ?_ (by rw [sz2, sz, sizeLine_eq]; omega)
  refine q _ M' (order.filterMap (rs[·]?)) (n + 1) t' (Heap.SameBut.update ..) ⟨⟨_, store_at ho hd, hex, rfl⟩, new, r3, (pm.map (·.2)).nodup_iff.mpr nd, ?_, by rw [len, r4]; exact room, by rw [len]; exact few⟩ pm
  rw [r5]
  exact ld
/-- one more -/
theorem put_in (S : Holds w s.heap a M rs n t) (kx : Keys s.heap M) {k : NestedKey} {b : Addr} (x : At s.heap k b) (hu : A.units + 8 < cLine) (few : M.length + 1 < 64) {Q : Bool → Shared → Prop}
    (q : ∀ r h' M' rs' n' t', Heap.SameBut a s.heap h' → Holds w h' a M' rs' n' t' → (k ∈ M.map (·.2) → M' = M) → (k ∉ M.map (·.2) → M'.Perm ((b, k) :: M)) → Q r { s with heap := h' }) :
    wpAny (model P w) A (setAddHashed a (.ref b) (k.hash w)) Q E s := by
  obtain ⟨o, ho, hex, hd⟩ := S.obj
  have sz := size_of S.is
  have room := S.room
  unfold setAddHashed
  refine wpAny_holding ?_
  rw [show (100000 : Nat) = 99999 + 1 from rfl, setAddHashedIn_succ]
  refine wpAny_bind (wpAny_setState_of ho hd S.fits ?_)
  dsimp only
  refine wp_if_neg (by simp [byScan, Value.scannable]) ?_
  try refine wpAny_bind (wpAny_pure ?_)
  refine wpAny_bind (seek_all S kx x hu (fun z => ?_) fun L z l2 l3 => ?_)
  · dsimp only
    exact wpAny_pure (q false s.heap M rs n t (Heap.SameBut.refl a s.heap) S (fun _ => rfl) fun y => absurd z y)
  dsimp only
  refine wpAny_bind (wpAny_setState_of ho hd S.fits ?_)
  dsimp only
  obtain ⟨p1, p2, p3, p4, p5, _, _, _, p9⟩ := S.tab.put l2 l3
  generalize SetTable.below t.place (way t.mask (k.hash w) L) = j at p1 p2 p3
  generalize t.put (way t.mask (k.hash w) L) = pt at p1 p3 p4 p5 p9 ⊢
  obtain ⟨t1, j1⟩ := pt
  dsimp only at p1 p3 p4 p5 p9 ⊢
  subst p1
  rw [List.length_map] at p2 p9
  -- the rows with the new one
  have pm : (M.take j1 ++ (b, k) :: M.drop j1).Perm ((b, k) :: M) := put_perm M j1 (b, k)
  have is1 : (SetTable.insertAt rs j1 (k.hash w, Value.ref b)).toList = inners w (M.take j1 ++ (b, k) :: M.drop j1) := by
    rw [SetTable.toList_insertAt, S.is]
    simp only [List.map_append, List.map_cons, List.map_take, List.map_drop]
  have T1 : TabOk t1 (hs w (M.take j1 ++ (b, k) :: M.drop j1)) := by
    have e : hs w (M.take j1 ++ (b, k) :: M.drop j1) = (hs w M).take j1 ++ k.hash w :: (hs w M).drop j1 := by simp only [List.map_append, List.map_cons, List.map_take, List.map_drop]
    rw [e]
    exact p3
  have nd1 : ((M.take j1 ++ (b, k) :: M.drop j1).map (·.2)).Nodup := (pm.map (·.2)).nodup_iff.mpr (List.nodup_cons.mpr ⟨z, S.nd⟩)
  have len1 : (M.take j1 ++ (b, k) :: M.drop j1).length = M.length + 1 := pm.length_eq
  generalize SetTable.insertAt rs j1 (k.hash w, Value.ref b) = rs1 at is1 ⊢
  generalize M.take j1 ++ (b, k) :: M.drop j1 = M1 at pm is1 T1 nd1 len1
  have sz1 : rs1.size = M.length + 1 := (size_of is1).trans len1
  -- whatever is said of its hash
  have go : ∀ (r : Bool) (t2 : SetTable), (t2 = t1 ∨ t2 = { t1 with plain := false }) → wpAny (model P w) A (do
      storeSet a rs1 t2
      if (!false && t2.tooFull) = true then do
          setRelay a (SetTable.grown (rs.size + 1))
          pure true
        else pure true) Q E s := by
    intro r t2 ht2
    have T2 : TabOk t2 (hs w M1) := by
      rcases ht2 with e | e <;> subst e
      · exact T1
      · exact keep_tab T1 false
    have f2 : t2.fill = M.length + 1 := by rcases ht2 with e | e <;> subst e <;> exact p9
    have m2 : t2.mask = t.mask := by rcases ht2 with e | e <;> subst e <;> exact p4
    have ld2 : w.params.followText "set-order" = true ∨ t2.led = true := by
      have z2 : t2.led = t.led := by rcases ht2 with e | e <;> subst e <;> exact p5
      rw [z2]
      exact S.led
    refine wpAny_bind (wpAny_storeSet_of ho hd ?_ (by rw [sz1, sizeLine_eq]; omega))
    have sb : Heap.SameBut a s.heap (s.heap.update a (Obj.putSet rs1 t2)) := Heap.SameBut.update ..
    have ho1 := store_at (es' := rs1) (t' := t2) ho hd
    generalize s.heap.update a (Obj.putSet rs1 t2) = h1 at sb ho1 ⊢
    by_cases full : t2.tooFull = true
    · refine wp_if_pos (by simp [full]) ?_
      rw [sz]
      have much : (M.length + 1) * 5 ≥ t.mask * 3 := by
        have z3 := full
        unfold SetTable.tooFull at z3
        rw [decide_eq_true_eq, f2, m2] at z3
        exact z3
      have step : ∀ m, SetTable.sizeAbove (SetTable.grown (M.length + 1)) - 1 = m → MaskOk m → SetTable.sizeAbove (SetTable.grown (M.length + 1)) ≤ 128 → (M.length + 1) * 5 < m * 3 → M.length + 1 ≤ t.mask →
          wpAny (model P w) A (do
            setRelay a (SetTable.grown (M.length + 1))
            pure true) Q E { s with heap := h1 } := fun m c1 c2 c3 c4 c5 => by
        refine wpAny_bind (again_laid (s := { s with heap := h1 }) ho1 hex rfl is1 T2 (by rw [len1, m2]; exact c5) nd1 ld2 (by rw [len1]; exact few) c1 c2 c3 (by rw [len1]; exact c4) fun h2 M2 rs2 n2 t3 sb2 S2 pm2 => ?_)
        exact wpAny_pure (q true h2 M2 rs2 n2 t3 (sb.trans sb2) S2 (fun y => absurd y z) fun _ => pm2.trans pm)
      rcases S.tab.mok with e | e | e
      · have el : M.length = 4 := by rw [e] at much room; omega
        exact step 31 (by rw [el, size_20]) (.inr (.inl rfl)) (by rw [el, size_20]; decide) (by omega) (by omega)
      · have el : M.length = 18 := by rw [e] at much room; omega
        exact step 127 (by rw [el, size_76]) (.inr (.inr rfl)) (by rw [el, size_76]; decide) (by omega) (by omega)
      · exfalso
        rw [e] at much
        omega
    · refine wp_if_neg (by simp [full]) ?_
      refine wpAny_pure (q true h1 M1 rs1 (n + 1) t2 sb ⟨⟨_, ho1, hex, rfl⟩, is1, T2, nd1, ld2, ?_, by rw [len1]; exact few⟩ (fun y => absurd y z) fun _ => pm)
      have z3 := full
      unfold SetTable.tooFull at z3
      rw [decide_eq_true_eq, f2] at z3
      rw [len1]
      omega
  by_cases pl : t1.plain = true
  · first
      | refine wp_if_pos pl (wpAny_bind (byVal k _ 8 x.1 x.2 _ _ _ fun r => ?_))
      | (refine wpAny_bind ?_; refine wp_if_pos pl ?_; refine byVal k _ 8 x.1 x.2 _ _ _ fun r => ?_)
    cases r with
    | true => exact go true t1 (.inl rfl)
    | false => exact go false _ (.inr rfl)
  · first
      | refine wp_if_neg pl (wpAny_bind (wpAny_pure ?_))
      | (refine wpAny_bind ?_; refine wp_if_neg pl ?_; refine wpAny_pure ?_)
    exact go true t1 (.inl rfl)
end
end NS

/-! ## N4 -/
set_option maxRecDepth 100000
set_option maxHeartbeats 3200000
/-! N4: set(xs) of a list of keys -/
namespace NS
open PySem PySem.Spec PyProof.Rows L2
/-- a set just made -/
abbrev bare (w : World) : Obj := { cls := .type "set", dict := none, data := .set #[] 0 (.fresh 0 0 (!w.params.followText "set-order")) }
theorem holds_bare {w : World} {h : Heap} {a : Addr} (ho : h.get? a = some (bare w)) : Holds w h a [] #[] 0 (.fresh 0 0 (!w.params.followText "set-order")) := by
  refine ⟨⟨_, ho, ⟨rfl, rfl, rfl⟩, rfl⟩, rfl, ⟨.nil, rfl, rfl, .inl rfl, fun j hj => (by cases hj), fun i g j hi => (by simp at hi)⟩, .nil, ?_, by show 0 * 5 < 7 * 3; decide, by show 0 < 64; decide⟩
  cases z : w.params.followText "set-order" with
  | true => exact .inl rfl
  | false => exact .inr rfl
theorem Holds.grow {w : World} {h h' : Heap} {a : Addr} {M : List Row} {rs : Array (Int × Value)} {n : Nat} {t : SetTable} (S : Holds w h a M rs n t) (g : ∀ o, h.get? a = some o → h'.get? a = some o) : Holds w h' a M rs n t := by
  obtain ⟨o, ho, r⟩ := S.obj
  exact ⟨⟨o, g o ho, r⟩, S.is, S.tab, S.nd, S.led, S.room, S.few⟩
/-- what a set has of the first i rows of a list -/
structure Took (N : List Row) (i : Nat) (M : List Row) : Prop where
  sub : ∀ m ∈ M, m ∈ N
  all : ∀ m ∈ N.take i, m.2 ∈ M.map (·.2)
  few : M.length ≤ i
theorem Took.none (N : List Row) : Took N 0 [] := ⟨fun m z => (by cases z), fun m z => (by simp at z), Nat.le_refl _⟩
theorem Took.more {N M M' : List Row} {i : Nat} {m : Row} (T : Took N i M) (hm : N[i]? = some m) (c1 : m.2 ∈ M.map (·.2) → M' = M) (c2 : m.2 ∉ M.map (·.2) → M'.Perm (m :: M)) : Took N (i + 1) M' := by
  have tk : N.take (i + 1) = N.take i ++ [m] := by rw [List.take_succ, hm] <;> rfl
  by_cases z : m.2 ∈ M.map (·.2)
  · rw [c1 z]
    refine ⟨T.sub, fun u hu => ?_, Nat.le_succ_of_le T.few⟩
    rw [tk] at hu
    rcases List.mem_append.mp hu with e | e
    · exact T.all u e
    · rw [List.mem_singleton.mp e]
      exact z
  · have pm := c2 z
    refine ⟨fun u hu => ?_, fun u hu => ?_, by rw [pm.length_eq, List.length_cons]; exact Nat.succ_le_succ T.few⟩
    · rcases List.mem_cons.mp (pm.mem_iff.mp hu) with e | e
      · rw [e]
        exact List.mem_of_getElem? hm
      · exact T.sub u e
    · refine (pm.map (·.2)).mem_iff.mpr ?_
      rw [tk] at hu
      rcases List.mem_append.mp hu with e | e
      · exact List.mem_cons_of_mem _ (T.all u e)
      · rw [List.mem_singleton.mp e]
        exact List.mem_cons_self
section
variable {P : Program} {w : World} {A : Around} {E : Value → Shared → Prop} {s : Shared}
/-- the loop of an update: h0 the heap in which the keys stand -/
theorem loop_puts {I : Addr} {fp wr : List Addr} {G : Array GenState → Array GenState → Prop} {n : Nat} {Pv : Nat → Value → Prop} {St : Nat → Shared → Prop} {R : Result → Shared → Prop} (W : WalksS P w A.in1 I fp wr G n Pv St) {a : Addr} (off : a ∉ fp)
    {N : List Row} (hn : n = N.length) (few : N.length < 64) (val : ∀ i v, Pv i v → ∃ m, N[i]? = some m ∧ v = .ref m.1) {h0 : Heap} (kn : Keys h0 N) (new : h0.get? a = none) (new2 : ∀ b ∈ wr, h0.get? b = none) (hu : A.in1.units + 8 < cLine) :
    ∀ (left i : Nat) (s : Shared), n - i = left → i ≤ n → St i s → (∀ b o, h0.get? b = some o → s.heap.get? b = some o) → (∃ M rs c t, Holds w s.heap a M rs c t ∧ Took N i M) →
      (∀ s' M rs c t, Moved (a :: wr) G s s' → Holds w s'.heap a M rs c t → Took N n M → (∀ b o, h0.get? b = some o → s'.heap.get? b = some o) → R (.ok (.ret .none)) s') →
      codeAny (model P w) A (.builtin "set.update.loop" ⟨[.ref a, .ref I], []⟩) R s := by
  have off2 : a ∉ wr := fun z => off (W.sub _ z)
  have wider : ∀ b ∈ wr, b ∈ a :: wr := fun b z => List.mem_cons_of_mem _ z
  have old : ∀ {s1 s2 : Shared}, Moved wr G s1 s2 → (∀ b o, h0.get? b = some o → s1.heap.get? b = some o) → ∀ b o, h0.get? b = some o → s2.heap.get? b = some o := fun mv g b o e =>
    mv.heap b o (fun z => by rw [new2 b z] at e; cases e) (g b o e)
  intro left
  induction left with
  | zero =>
    rintro i s e le st g ⟨M, rs, c, t, S, T⟩ fin
    obtain rfl : i = n := by omega
    refine codeAny_builtin F.entry_set_update_loop ?_
    rw [Around.under_plainId F.plain_set_update_loop _]
    show wpAny _ A.in1 (pyNext (.ref I) >>= _) _ _ s
    refine wpAny_bind (W.done s _ _ st fun s' mv => ?_)
    show wpAny _ A.in1 (ret Value.none) _ _ s'
    exact wpAny_pure (fin s' M rs c t (mv.mono wider) (S.grow fun o z => mv.heap a o off2 z) T (old mv g))
  | succ left ih =>
    rintro i s e le st g ⟨M, rs, c, t, S, T⟩ fin
    have lt : i < n := by omega
    refine codeAny_builtin F.entry_set_update_loop ?_
    rw [Around.under_plainId F.plain_set_update_loop _]
    show wpAny _ A.in1 (pyNext (.ref I) >>= _) _ _ s
    refine wpAny_bind (W.item i s _ _ lt st fun v s' pv st' mv => ?_)
    obtain ⟨m, hm, rfl⟩ := val i v pv
    have g' := old mv g
    have S' : Holds w s'.heap a M rs c t := S.grow fun o z => mv.heap a o off2 z
    have x : At s'.heap m.2 m.1 := (kn m (List.mem_of_getElem? hm)).grow g'
    show wpAny _ A.in1 (holding [Value.ref m.1] (setAdd a (.ref m.1)) >>= _) _ _ s'
    refine wpAny_bind (wpAny_holding ?_)
    unfold setAdd
    refine wpAny_holding (wpAny_bind ((nestedKind P w).pyHash hu x ?_))
    refine put_in (s := { s' with toks := s'.toks + m.2.draws }) S' (fun u hu' => (kn u (T.sub u hu')).grow g') x hu (by have := T.few; omega) fun r h' M' rs' c' t' sb S2 c1 c2 => ?_
    have g2 : ∀ b o, h0.get? b = some o → h'.get? b = some o := fun b o z => (sb.2 b (fun q => by rw [q, new] at z; cases z)).trans (g' b o z)
    refine wpAny_pure ⟨plainId_quiet F.plain_set_update_loop _, ih (i + 1) _ (by omega) lt (W.frame _ s' _ _ st' (Nat.le_add_right _ _) fun b hb o z => ?_) g2 ⟨M', rs', c', t', S2, T.more hm c1 c2⟩ fun s'' M2 rs2 c3 t2 mv2 S3 T3 g3 => ?_⟩
    · exact (sb.2 b (fun q : b = a => off (q ▸ hb))).trans z
    · refine fin s'' M2 rs2 c3 t2 (Moved.trans W.gtrans ((mv.mono wider).then_heap (Nat.le_add_right _ _) fun b o hb z => ?_) mv2) S3 T3 g3
      exact (sb.2 b (fun q : b = a => hb (q ▸ List.mem_cons_self))).trans z
/-- set(xs): what is left is the loop over a fresh set and a fresh iterator -/
theorem set_of_list {l : Addr} {items : Array Value} {Q : Value → Shared → Prop} {Post : Heap → Nat → Prop} (hl : s.heap.IsList l items)
    (loop : ∀ R : Result → Shared → Prop, (∀ h' tk, Post h' tk → R (.ok (.ret .none)) { s with heap := h', toks := tk }) →
      codeAny (model P w) A.in1.in1 (.builtin "set.update.loop" ⟨[.ref s.heap.objs.size, .ref (s.heap.objs.size + 1)], []⟩) R { s with heap := (s.heap.push (bare w)).push { cls := .type "list_iterator", data := .fields #[.ref l, .int 0 0] } })
    (h : ∀ h' tk, Post h' tk → Q (.ref s.heap.objs.size) { s with heap := h', toks := tk }) : wpAny (model P w) A (call (.type "set") [.ref l]) Q E s := by
  obtain ⟨c, tl, hmro⟩ := F.called_set.mro
  have hmade := F.called_set.made
  have hsub := F.called_set.sub
  refine wpAny_call (codeAny_of_tree ?_)
  show wpAny _ _ (callAny (.type "set") _) _ _ _
  refine wpAny_pure ⟨Code.quiet_builtin _ (by decide +kernel), codeAny_builtin F.entry_type_call ?_⟩
  rw [Around.under_plain (weight_type_call_type "set" [.ref l] []) rfl]
  have h1 := F.called_set.notType
  have h2 := F.called_set.canCreate
  have hct := F.typeCall_set_1 (.ref l)
  repeat (any_goals (first | assumption | wp_step))
  refine codeAny_mono (code_set_led1 (.ref l) (E := E) (Q₁ := fun v s1 => v = .ref s.heap.objs.size ∧ s1 = { s with heap := s.heap.push (bare w) }) ⟨rfl, rfl⟩) fun r s1 hr => ?_
  rcases r with e | (_ | _ | _ | v)
  · exact hr
  · exact hr.elim
  · exact hr.elim
  · exact hr.elim
  obtain ⟨rfl, rfl⟩ := hr
  have isS : (s.heap.push (bare w)).get? s.heap.objs.size = some (bare w) := Heap.get?_push_size _ rfl
  have tyS : Shared.TypeIs { s with heap := s.heap.push (bare w) } (.ref s.heap.objs.size) "set" := ⟨_, isS, rfl⟩
  have hli := F.called_set.init.lookup
  have hbi := F.called_set.init.bind (.ref s.heap.objs.size)
  repeat (any_goals (first | assumption | wp_step))
  refine codeAny_mono (codeAny_call_builtin (R := wants (fun v s2 => v = .none ∧ ∃ h' tk, s2 = { s with heap := h', toks := tk } ∧ Post h' tk) E) F.called_set.init.plain F.entry_set_init (check_set_init_1 tyS ?_)) fun r2 s2 hr2 => ?_
  · obtain ⟨⟨lc, ld, lo, ls⟩, hol, hcl, nl, hdl⟩ := hl
    dsimp only at hcl hdl
    subst hcl hdl
    have hol' : (s.heap.push (bare w)).get? l = some { cls := .type "list", dict := ld, data := .seq items nl, slots := ls } := Heap.get?_push_of_some _ hol
    have hl1 : (s.heap.push (bare w)).IsList l items := ⟨_, hol', rfl, nl, rfl⟩
    have hsls := F.sub_list_set
    have hslf := F.sub_list_frozenset
    have hne : (Value.type "list" == Value.type "dict") = false := by decide
    unfold Builtin.«set.__init__» noKeywords Builtin.Frozenset.updateFrom
    generalize hPI : pyIter = PI
    wp_walk
    subst hPI
    refine wpAny_pyIter_list hl1 (wpAny_bind (wpAny_runValue ?_))
    have hz : (s.heap.push (bare w)).objs.size = s.heap.objs.size + 1 := Heap.size_push ..
    show codeAny _ _ (.builtin "set.update.loop" ⟨[.ref s.heap.objs.size, .ref (s.heap.push (bare w)).objs.size], []⟩) _ _
    rw [hz]
    refine loop _ fun h' tk po => ?_
    show wpAny _ _ _ _ _ _
    refine wpAny_pure ?_
    show wpAny _ _ (ret Value.none) _ _ _
    exact wpAny_pure ⟨rfl, h', tk, rfl, po⟩
  · rcases r2 with e | (_ | _ | _ | v)
    · exact hr2
    · exact hr2.elim
    · exact hr2.elim
    · exact hr2.elim
    obtain ⟨rfl, h', tk, rfl, po⟩ := hr2
    repeat (any_goals (first | assumption | wp_step))
    exact h _ _ po
/-- set(xs) of keys -/
theorem set_keys {l : Addr} {items : Array Value} {N : List Row} {Q : Value → Shared → Prop} (hh : A.handled = none) (hl : s.heap.IsList l items) (hit : items.toList = N.map fun m => Value.ref m.1) (kn : Keys s.heap N) (few : N.length < 64) (hu : A.units + 16 < cLine)
    (h : ∀ h' tk M rs c t, Holds w h' s.heap.objs.size M rs c t → Took N N.length M → (∀ b o, s.heap.get? b = some o → h'.get? b = some o) → Q (.ref s.heap.objs.size) { s with heap := h', toks := tk }) : wpAny (model P w) A (call (.type "set") [.ref l]) Q E s := by
  have size : items.size = N.length := by rw [← Array.length_toList, hit, List.length_map]
  have none_at : ∀ b, s.heap.objs.size ≤ b → s.heap.get? b = none := fun b hb => by
    cases q : s.heap.get? b with
    | none => rfl
    | some o => exact absurd (Heap.lt_size q) (Nat.not_lt.mpr hb)
  refine set_of_list (Post := fun h' _ => ∃ M rs c t, Holds w h' s.heap.objs.size M rs c t ∧ Took N N.length M ∧ ∀ b o, s.heap.get? b = some o → h'.get? b = some o) hl (fun R fin => ?_) fun h' tk ⟨M, rs, c, t, S, T, g⟩ => h h' tk M rs c t S T g
  have ll : l < s.heap.objs.size := by
    obtain ⟨o, ho, _⟩ := hl
    exact Heap.lt_size ho
  have hz : (s.heap.push (bare w)).objs.size = s.heap.objs.size + 1 := Heap.size_push ..
  have hl2 : ((s.heap.push (bare w)).push { cls := .type "list_iterator", data := .fields #[.ref l, .int 0 0] }).IsList l items := (hl.push _).push _
  have it : ((s.heap.push (bare w)).push { cls := .type "list_iterator", data := .fields #[.ref l, .int 0 0] }).get? (s.heap.objs.size + 1) = some { cls := .type "list_iterator", data := .fields #[.ref l, .int 0 0] } := by
    rw [← hz]
    exact Heap.get?_push_size _ rfl
  have up : ∀ b o, s.heap.get? b = some o → ((s.heap.push (bare w)).push { cls := .type "list_iterator", data := .fields #[.ref l, .int 0 0] }).get? b = some o := fun b o e => Heap.get?_push_of_some _ (Heap.get?_push_of_some _ e)
  have isS : ((s.heap.push (bare w)).push { cls := .type "list_iterator", data := .fields #[.ref l, .int 0 0] }).get? s.heap.objs.size = some (bare w) := Heap.get?_push_of_some _ (Heap.get?_push_size _ rfl)
  refine loop_puts (h0 := s.heap) ((Walks.list (A := A.in1.in1.in1) (by simp [hh]) (s.heap.objs.size + 1) l (Nat.ne_of_lt (Nat.lt_succ_of_lt ll)) items).toS) (a := s.heap.objs.size) (fun z => by
    rcases List.mem_cons.mp z with e | e
    · exact absurd e (Nat.ne_of_lt (Nat.lt_succ_self _))
    · exact absurd (List.mem_singleton.mp e) (Nat.ne_of_gt ll)) (N := N) size few (fun i v hv => ?_) kn
    (none_at _ (Nat.le_refl _)) (fun b hb => none_at b (by rw [List.mem_singleton.mp hb]; exact Nat.le_succ _)) (by show A.in1.in1.in1.units + 8 < cLine; simp only [Around.in1_units]; omega) (items.size - 0) 0 _ (by omega) (Nat.zero_le _) ⟨⟨_, it, rfl, rfl⟩, hl2⟩ up ⟨[], #[], 0, _, holds_bare isS, Took.none N⟩
    fun s' M rs c t mv S T g => ?_
  · have q : items.toList[i]? = some v := by rw [Array.getElem?_toList]; exact hv
    rw [hit, List.getElem?_map] at q
    obtain ⟨m, hm, e⟩ := Option.map_eq_some_iff.mp q
    exact ⟨m, hm, e.symm⟩
  · obtain ⟨h', g2, d', tk', os'⟩ := s'
    have e1 : g2 = s.gens := mv.gens
    have e2 : d' = s.drawn := mv.drawn
    have e3 : os' = s.os := mv.os
    subst e1 e2 e3
    rw [size] at T
    exact fin h' tk' ⟨M, rs, c, t, S, T, g⟩
end
end NS

/-! ## N5 -/
set_option maxRecDepth 100000
set_option maxHeartbeats 2000000
/-! N5: the order of keys of any depth, and sorting by it -/
namespace NS
open PySem PySem.Spec PyProof.Rows L2
def ltX (x y : Str) : Bool := decide (x.cps.toList < y.cps.toList)
def kindN : NestedKey → Nat
  | .none => 0
  | .num _ => 1
  | .text _ => 2
  | .tup _ => 3
mutual
/-- Python's order where it has one; else by the kind -/
def ltK : NestedKey → NestedKey → Bool
  | .num a, .num b => decide (a < b)
  | .text a, .text b => ltX a b
  | .tup a, .tup b => ltKs a b
  | a, b => decide (kindN a < kindN b)
def ltKs : List NestedKey → List NestedKey → Bool
  | [], [] => false
  | [], _ :: _ => true
  | _ :: _, [] => false
  | a :: as, b :: bs => if NestedKey.beq a b = true then ltKs as bs else ltK a b
end
mutual
/-- Python has an order of the two, and of all that stands in them place by place -/
def okK : NestedKey → NestedKey → Bool
  | .num _, .num _ => true
  | .text _, .text _ => true
  | .tup a, .tup b => okKs a b
  | _, _ => false
def okKs : List NestedKey → List NestedKey → Bool
  | a :: as, b :: bs => (NestedKey.beq a b || okK a b) && okKs as bs
  | _, _ => true
end
/-! ### it is one -/
theorem ltX_irr (x : Str) : ltX x x = false := decide_eq_false (List.lt_irrefl _)
theorem ltX_tr {x y z : Str} (h1 : ltX x y = true) (h2 : ltX y z = true) : ltX x z = true := decide_eq_true (List.lt_trans (of_decide_eq_true h1) (of_decide_eq_true h2))
theorem ltX_asy {x y : Str} (h : ltX x y = true) : ltX y x = false := by
  cases q : ltX y x with
  | false => rfl
  | true =>
    have z := ltX_tr h q
    rw [ltX_irr] at z
    cases z
theorem str_ext {x y : Str} (h : x.cps.toList = y.cps.toList) : x = y := by
  obtain ⟨⟨a⟩⟩ := x
  obtain ⟨⟨b⟩⟩ := y
  have e : a = b := h
  rw [e]
theorem ltX_tot {x y : Str} (h : x ≠ y) : ltX x y = true ∨ ltX y x = true := by
  by_cases c1 : x.cps.toList < y.cps.toList
  · exact .inl (decide_eq_true c1)
  · by_cases c2 : y.cps.toList < x.cps.toList
    · exact .inr (decide_eq_true c2)
    · exact absurd (str_ext (List.le_antisymm (List.not_lt.mp c2) (List.not_lt.mp c1))) h
theorem beq_no {a b : NestedKey} (h : ¬ NestedKey.beq a b = true) : a ≠ b := fun e => h (by rw [e]; exact NestedKey.beq_self b)
theorem beq_symm {a b : NestedKey} : NestedKey.beq a b = true ↔ NestedKey.beq b a = true := ⟨fun h => by rw [NestedKey.eq_of_beq _ _ h]; exact NestedKey.beq_self _, fun h => by rw [NestedKey.eq_of_beq _ _ h]; exact NestedKey.beq_self _⟩
mutual
theorem ltK_asy : ∀ x y : NestedKey, ltK x y = true → ltK y x = false
  | .none, y, h => by cases y <;> simp_all [ltK, kindN]
  | .num a, y, h => by
    cases y with
    | num b => simp only [ltK, decide_eq_true_eq, decide_eq_false_iff_not] at h ⊢; omega
    | _ => simp_all [ltK, kindN]
  | .text a, y, h => by
    cases y with
    | text b => simp only [ltK] at h ⊢; exact ltX_asy h
    | _ => simp_all [ltK, kindN]
  | .tup a, y, h => by
    cases y with
    | tup b => simp only [ltK] at h ⊢; exact ltKs_asy a b h
    | _ => simp_all [ltK, kindN]
theorem ltKs_asy : ∀ x y : List NestedKey, ltKs x y = true → ltKs y x = false
  | [], [], h => by simp [ltKs] at h
  | [], _ :: _, _ => by simp [ltKs]
  | _ :: _, [], h => by simp [ltKs] at h
  | a :: as, b :: bs, h => by
    rw [ltKs] at h ⊢
    by_cases c : NestedKey.beq a b = true
    · rw [if_pos c] at h
      rw [if_pos (beq_symm.mp c)]
      exact ltKs_asy as bs h
    · rw [if_neg c] at h
      rw [if_neg fun z => c (beq_symm.mp z)]
      exact ltK_asy a b h
end
mutual
theorem ltK_tot : ∀ x y : NestedKey, x ≠ y → ltK x y = true ∨ ltK y x = true
  | .none, y, h => by
    cases y with
    | none => exact absurd rfl h
    | _ => simp [ltK, kindN]
  | .num a, y, h => by
    cases y with
    | num b =>
      have z : a ≠ b := fun e => h (by rw [e])
      simp only [ltK, decide_eq_true_eq]
      omega
    | _ => simp [ltK, kindN]
  | .text a, y, h => by
    cases y with
    | text b => simp only [ltK]; exact ltX_tot fun e => h (by rw [e])
    | _ => simp [ltK, kindN]
  | .tup a, y, h => by
    cases y with
    | tup b => simp only [ltK]; exact ltKs_tot a b fun e => h (by rw [e])
    | _ => simp [ltK, kindN]
theorem ltKs_tot : ∀ x y : List NestedKey, x ≠ y → ltKs x y = true ∨ ltKs y x = true
  | [], [], h => absurd rfl h
  | [], _ :: _, _ => .inl (by simp [ltKs])
  | _ :: _, [], _ => .inr (by simp [ltKs])
  | a :: as, b :: bs, h => by
    rw [ltKs, ltKs]
    by_cases c : NestedKey.beq a b = true
    · rw [if_pos c, if_pos (beq_symm.mp c)]
      exact ltKs_tot as bs fun e => h (by rw [e, NestedKey.eq_of_beq _ _ c])
    · rw [if_neg c, if_neg fun z => c (beq_symm.mp z)]
      exact ltK_tot a b (beq_no c)
end
theorem kind_lt {x y : NestedKey} (h : ltK x y = true) : kindN x ≤ kindN y := by
  cases x <;> cases y <;> simp_all [ltK, kindN]
theorem lt_kind {x y : NestedKey} (h : kindN x < kindN y) : ltK x y = true := by
  cases x <;> cases y <;> simp_all [ltK, kindN]
mutual
theorem ltK_tr : ∀ x y z : NestedKey, ltK x y = true → ltK y z = true → ltK x z = true
  | .none, y, z, h1, h2 => by cases y <;> cases z <;> simp_all [ltK, kindN]
  | .num a, y, z, h1, h2 => by
    cases y with
    | num b =>
      cases z with
      | num c => simp only [ltK, decide_eq_true_eq] at h1 h2 ⊢; omega
      | _ => simp_all [ltK, kindN]
    | _ =>
      have k1 := kind_lt h1
      have k2 := kind_lt h2
      first
        | (exfalso; simp_all [ltK, kindN]; done)
        | (refine lt_kind ?_; simp only [kindN] at k1 k2 ⊢; omega)
  | .text a, y, z, h1, h2 => by
    cases y with
    | text b =>
      cases z with
      | text c => simp only [ltK] at h1 h2 ⊢; exact ltX_tr h1 h2
      | _ => simp_all [ltK, kindN]
    | _ =>
      have k1 := kind_lt h1
      have k2 := kind_lt h2
      first
        | (exfalso; simp_all [ltK, kindN]; done)
        | (refine lt_kind ?_; simp only [kindN] at k1 k2 ⊢; omega)
  | .tup a, y, z, h1, h2 => by
    cases y with
    | tup b =>
      cases z with
      | tup c => simp only [ltK] at h1 h2 ⊢; exact ltKs_tr a b c h1 h2
      | _ => simp_all [ltK, kindN]
    | _ => simp_all [ltK, kindN]
theorem ltKs_tr : ∀ x y z : List NestedKey, ltKs x y = true → ltKs y z = true → ltKs x z = true
  | [], [], _, h, _ => by simp [ltKs] at h
  | [], _ :: _, [], _, h => by simp [ltKs] at h
  | [], _ :: _, _ :: _, _, _ => by simp [ltKs]
  | _ :: _, [], _, h, _ => by simp [ltKs] at h
  | _ :: _, _ :: _, [], _, h => by simp [ltKs] at h
  | a :: as, b :: bs, c :: cs, h1, h2 => by
    rw [ltKs] at h1 h2 ⊢
    by_cases c1 : NestedKey.beq a b = true
    · rw [if_pos c1] at h1
      have e := NestedKey.eq_of_beq _ _ c1
      subst e
      by_cases c2 : NestedKey.beq a c = true
      · rw [if_pos c2] at h2 ⊢
        exact ltKs_tr as bs cs h1 h2
      · rw [if_neg c2] at h2 ⊢
        exact h2
    · rw [if_neg c1] at h1
      by_cases c2 : NestedKey.beq b c = true
      · have e := NestedKey.eq_of_beq _ _ c2
        subst e
        rw [if_neg c1]
        exact h1
      · rw [if_neg c2] at h2
        have t := ltK_tr a b c h1 h2
        by_cases c3 : NestedKey.beq a c = true
        · have e := NestedKey.eq_of_beq _ _ c3
          subst e
          rw [ltK_asy a b h1] at h2
          cases h2
        · rw [if_neg c3]
          exact t
end
theorem ltK_irr (x : NestedKey) : ltK x x = false := by
  cases q : ltK x x with
  | false => rfl
  | true =>
    have z := ltK_asy x x q
    rw [q] at z
    cases z
theorem swo_by {α : Type} (f : α → NestedKey) : SrtO.Swo fun x y => ltK (f x) (f y) := by
  refine ⟨fun x y h => ltK_asy _ _ h, fun x y z h1 h2 => ?_⟩
  cases q : ltK (f z) (f x) with
  | false => rfl
  | true =>
    exfalso
    by_cases e1 : f x = f y
    · rw [← e1, q] at h2
      cases h2
    · rcases ltK_tot _ _ e1 with c | c
      · have t := ltK_tr _ _ _ q c
        rw [t] at h2
        cases h2
      · rw [c] at h1
        cases h1
end NS

/-! ## N6 -/
set_option maxRecDepth 100000
set_option maxHeartbeats 2000000
/-! N6: two keys compared by the machine; a list of them sorted -/
namespace NS
open PySem PySem.Spec PyProof.Rows L2
open PySem.SeqAt (EqAt)
mutual
/-- a key without True and False -/
inductive Pure (h : Heap) : NestedKey → Value → Prop
  | none : Pure h .none .none
  | int (i t) : Pure h (.num i) (.int i t)
  | text (x t) : Pure h (.text x) (.str x t)
  | tup {a o vs n ks} : h.get? a = some o → o.cls = .type "tuple" → o.data = .seq vs n → PureAll h ks vs.toList → Pure h (.tup ks) (.ref a)
inductive PureAll (h : Heap) : List NestedKey → List Value → Prop
  | nil : PureAll h [] []
  | cons {k v ks vs} : Pure h k v → PureAll h ks vs → PureAll h (k :: ks) (v :: vs)
end
mutual
theorem Pure.is {h : Heap} : ∀ (k : NestedKey) (v : Value), Pure h k v → NestedIs h k v
  | .none, _, x => by cases x; exact .none
  | .num _, _, x => by cases x; exact .int _ _
  | .text _, _, x => by cases x; exact .text _ _
  | .tup ks, _, x => by
    cases x with
    | tup h1 h2 h3 h4 => exact .tup h1 h2 h3 (PureAll.is ks _ h4)
theorem PureAll.is {h : Heap} : ∀ (ks : List NestedKey) (vs : List Value), PureAll h ks vs → NestedAll h ks vs
  | [], _, x => by cases x; exact .nil
  | k :: ks, _, x => by
    cases x with
    | cons h1 h2 => exact .cons (Pure.is k _ h1) (PureAll.is ks _ h2)
end
mutual
theorem Pure.grow {h h' : Heap} (g : ∀ a o, h.get? a = some o → o.cls = .type "tuple" → h'.get? a = some o) : ∀ (k : NestedKey) (v : Value), Pure h k v → Pure h' k v
  | .none, _, x => by cases x; exact .none
  | .num _, _, x => by cases x; exact .int _ _
  | .text _, _, x => by cases x; exact .text _ _
  | .tup ks, _, x => by
    cases x with
    | tup h1 h2 h3 h4 => exact .tup (g _ _ h1 h2) h2 h3 (PureAll.grow g ks _ h4)
theorem PureAll.grow {h h' : Heap} (g : ∀ a o, h.get? a = some o → o.cls = .type "tuple" → h'.get? a = some o) : ∀ (ks : List NestedKey) (vs : List Value), PureAll h ks vs → PureAll h' ks vs
  | [], _, x => by cases x; exact .nil
  | k :: ks, _, x => by
    cases x with
    | cons h1 h2 => exact .cons (Pure.grow g k _ h1) (PureAll.grow g ks _ h2)
end
theorem PureAll.len {h : Heap} {ks : List NestedKey} {vs : List Value} (x : PureAll h ks vs) : vs.length = ks.length := NestedAll.length _ _ (PureAll.is _ _ x)
theorem lex_is : ∀ (xs ys : List NestedKey) (e r : Nat → Bool) (z : Bool) (i : Nat), (∀ j, e (i + j) = keyEqAt xs ys j) → (∀ j, r (i + j) = ltK (xs.getD j .none) (ys.getD j .none)) → z = decide (xs.length < ys.length) → Ob.lexAt e r z i (min xs.length ys.length) = ltKs xs ys
  | [], [], e, r, z, i, _, _, hz => by rw [hz]; rfl
  | [], _ :: _, e, r, z, i, _, _, hz => by
    rw [hz]
    show decide (0 < _ + 1) = true
    exact decide_eq_true (Nat.succ_pos _)
  | _ :: _, [], e, r, z, i, _, _, hz => by
    rw [hz]
    show decide (_ + 1 < 0) = false
    exact decide_eq_false (Nat.not_lt_zero _)
  | x :: xs, y :: ys, e, r, z, i, he, hr, hz => by
    have m : min (x :: xs).length (y :: ys).length = min xs.length ys.length + 1 := by simp only [List.length_cons]; omega
    have e0 : e i = NestedKey.beq x y := he 0
    have r0 : r i = ltK x y := hr 0
    rw [m, Ob.lexAt_succ, e0, r0, ltKs]
    by_cases c : NestedKey.beq x y = true
    · rw [if_pos c, if_pos c]
      refine lex_is xs ys e r z (i + 1) (fun j => ?_) (fun j => ?_) ?_
      · have q := he (j + 1)
        rw [show i + 1 + j = i + (j + 1) by omega, q] <;> rfl
      · have q := hr (j + 1)
        rw [show i + 1 + j = i + (j + 1) by omega, q] <;> rfl
      · rw [hz]
        exact decide_eq_decide.mpr (by simp only [List.length_cons]; omega)
    · rw [if_neg c, if_neg c]
theorem room_some {A : Around} {x : NestedKey} {n : Nat} (h : A.units + n < cLine) : A.units < cLine := by omega
mutual
theorem rich : ∀ (x y : NestedKey) (A : Around) (s : Shared) (u v : Value), okK x y = true → Pure s.heap x u → Pure s.heap y v → A.units + min x.depth y.depth < cLine → Ob.RcOp .Lt A s u v (ltK x y)
  | .none, y, _, _, _, _, h, _, _, _ => by cases y <;> simp [okK] at h
  | .num a, y, A, s, _, _, h, ru, rv, _ => by
    cases y with
    | num b => cases ru; cases rv; exact Ob.RcOp.lt_int _ _ _ _
    | _ => simp [okK] at h
  | .text a, y, A, s, _, _, h, ru, rv, _ => by
    cases y with
    | text b => cases ru; cases rv; exact fun prog w E Q q => lt_str q
    | _ => simp [okK] at h
  | .tup xs, y, A, s, _, _, h, ru, rv, hu => by
    cases y with
    | tup ys =>
      cases ru with
      | @tup l o vs n _ h1 h2 h3 h4 =>
        cases rv with
        | @tup l' o' vs' n' _ k1 k2 k3 k4 =>
          have t1 : s.heap.IsTuple l vs := ⟨_, h1, h2, _, h3⟩
          have t2 : s.heap.IsTuple l' vs' := ⟨_, k1, k2, _, k3⟩
          have n1 : vs.size = xs.length := by simpa using h4.len
          have n2 : vs'.size = ys.length := by simpa using k4.len
          have ho : okKs xs ys = true := by simpa only [okK] using h
          have deep : A.in1.units + min (NestedKey.depthAll xs) (NestedKey.depthAll ys) < cLine := by
            simp only [NestedKey.depth, Around.in1_units] at hu ⊢
            omega
          have z := Ob.RcOp.tuples_lt (A := A) (s := s) (e := keyEqAt xs ys) (r := fun j => ltK (xs.getD j .none) (ys.getD j .none)) t1 t2 (by omega) (fun j j1 j2 => ?_) fun j j1 j2 ne => ?_
          · rw [n1, n2] at z
            rw [lex_is xs ys _ _ _ 0 (fun j => by rw [Nat.zero_add]) (fun j => by rw [Nat.zero_add]) rfl] at z
            simp only [ltK]
            exact z
          · have q := eqAt_keys xs ys A.in1 s vs.toList vs'.toList (PureAll.is _ _ h4) (PureAll.is _ _ k4) deep j (by simpa using j1) (by simpa using j2)
            simpa using q
          · have q := richs xs ys A.in1 s vs.toList vs'.toList ho h4 k4 deep j (by simpa using j1) (by simpa using j2) ne
            simpa using q
    | _ => simp [okK] at h
theorem richs : ∀ (xs ys : List NestedKey) (A : Around) (s : Shared) (us vs : List Value), okKs xs ys = true → PureAll s.heap xs us → PureAll s.heap ys vs → A.units + min (NestedKey.depthAll xs) (NestedKey.depthAll ys) < cLine →
    ∀ j (h1 : j < us.length) (h2 : j < vs.length), keyEqAt xs ys j = false → Ob.RcOp .Lt A s us[j] vs[j] (ltK (xs.getD j .none) (ys.getD j .none))
  | [], _, _, _, _, _, _, ra, _, _, j, h1, _, _ => by cases ra; exact absurd h1 (Nat.not_lt_zero _)
  | _ :: _, [], _, _, _, _, _, _, rb, _, j, _, h2, _ => by cases rb; exact absurd h2 (Nat.not_lt_zero _)
  | x :: xs, y :: ys, A, s, _, _, h, ra, rb, hu, j, h1, h2, ne => by
    rw [okKs, Bool.and_eq_true] at h
    simp only [NestedKey.depthAll] at hu
    cases ra with
    | cons r rs =>
      cases rb with
      | cons r' rs' =>
        cases j with
        | zero =>
          have q : okK x y = true := by
            have z : NestedKey.beq x y = false := ne
            rw [z, Bool.false_or] at h
            exact h.1
          exact rich x y A s _ _ q r r' (by omega)
        | succ j => exact richs xs ys A s _ _ h.2 rs rs' (by omega) j (Nat.lt_of_succ_lt_succ h1) (Nat.lt_of_succ_lt_succ h2) ne
end
end NS

/-! ## N7 -/
set_option maxRecDepth 100000
set_option maxHeartbeats 2000000
/-! N7: sorted(xs) and sorted(set) of keys -/
namespace NS
open PySem PySem.Spec PyProof.Rows L2 PySem.W
def tyN (c : Nat) : String := if c = 1 then "int" else if c = 2 then "str" else "tuple"
/-- a tuple whose first item is of the kind c: 1 an int, 2 a text, 3 a tuple -/
def Leads (c : Nat) (k : NestedKey) : Prop := ∃ x xs, k = .tup (x :: xs) ∧ kindN x = c
section
variable {P : Program} {w : World} {A : Around} {E : Value → Shared → Prop} {s : Shared}
theorem lex_asks {b : Bool} : ∀ (xs ys : List NestedKey) (us vs : List Value) (i : Nat) (fin : Bool) (Q : Bool → Shared → Prop), okKs xs ys = true → PureAll s.heap xs us → PureAll s.heap ys vs → A.units + min (NestedKey.depthAll xs) (NestedKey.depthAll ys) < cLine →
    (b = true → i = 0 → ∀ x y, xs.head? = some x → ys.head? = some y → (kindN x = 1 ∧ kindN y = 1) ∨ (kindN x = 2 ∧ kindN y = 2)) → fin = decide (xs.length < ys.length) → Q (ltKs xs ys) s → KatLex P w A b fin Q (us.zip vs) i s
  | [], ys, us, vs, i, fin, Q, _, ra, rb, _, _, hf, q => by
    cases ra
    cases ys with
    | nil => cases rb; rw [hf]; exact kat_nil q
    | cons y ys =>
      cases rb
      rw [hf]
      have z : decide (([] : List NestedKey).length < (y :: ys).length) = true := decide_eq_true (Nat.succ_pos _)
      exact kat_nil (by rw [z]; exact q)
  | x :: xs, [], us, vs, i, fin, Q, _, ra, rb, _, _, hf, q => by
    cases rb
    cases ra
    rw [hf]
    have z : decide ((x :: xs).length < ([] : List NestedKey).length) = false := decide_eq_false (Nat.not_lt_zero _)
    exact kat_nil (by rw [z]; exact q)
  | x :: xs, y :: ys, us, vs, i, fin, Q, h, ra, rb, hu, h1, hf, q => by
    rw [okKs, Bool.and_eq_true] at h
    simp only [NestedKey.depthAll] at hu
    cases ra with
    | @cons _ u _ us r rs =>
      cases rb with
      | @cons _ v _ vs r' rs' =>
        show KatLex P w A b fin Q ((u, v) :: us.zip vs) i s
        refine kat_cons (eqAt_key x y A s u v (Pure.is _ _ r) (Pure.is _ _ r') (by omega) P w _ _ (kat_go (fun c => ?_) fun c => ?_))
        · refine kat_yes (lex_asks xs ys us vs (i + 1) fin Q h.2 rs rs' (by omega) (fun _ z => absurd z (Nat.succ_ne_zero _)) ?_ ?_)
          · rw [hf]
            exact decide_eq_decide.mpr (by simp only [List.length_cons]; omega)
          · rw [ltKs, if_pos c] at q
            exact q
        · have ok : okK x y = true := by
            have z := h.1
            rw [c, Bool.false_or] at z
            exact z
          rw [ltKs, if_neg (by rw [c]; exact Bool.false_ne_true)] at q
          refine kat_no ?_
          by_cases z : (b && i == 0) = true
          · rw [z]
            rw [Bool.and_eq_true] at z
            rcases h1 z.1 (eq_of_beq z.2) x y rfl rfl with ⟨k1, k2⟩ | ⟨k1, k2⟩
            · cases r <;> cases r' <;> simp only [kindN] at k1 k2 <;> first | exact absurd k1 (by decide) | exact absurd k2 (by decide) | skip
              exact oneLt_int (by simpa only [ltK] using q)
            · cases r <;> cases r' <;> simp only [kindN] at k1 k2 <;> first | exact absurd k1 (by decide) | exact absurd k2 (by decide) | skip
              exact oneLt_str (by simpa only [ltK, ltX] using q)
          · have z2 : (b && i == 0) = false := Bool.eq_false_iff.mpr z
            rw [z2]
            refine kat_one _ _ ?_
            exact rich x y A s u v ok r r' (by omega) P w _ _ q
theorem lead_look {M : Model} {h : Heap} {x : NestedKey} {u : Value} (r : Pure h x u) {c : Nat} (hc : c = 1 ∨ c = 2 ∨ c = 3) (k : kindN x = c) : Looks M h (typeOf u) (.type (tyN c)) := by
  cases r with
  | none => rcases hc with e | e | e <;> subst e <;> simp [kindN] at k
  | int i t =>
    have e : c = 1 := k.symm
    subst e
    exact Looks.now
  | text z t =>
    have e : c = 2 := k.symm
    subst e
    exact Looks.now
  | @tup a o vs n ks h1 h2 h3 h4 =>
    have e : c = 3 := k.symm
    subst e
    have z : Looks M h (typeOf (.ref a)) o.cls := (Looks.ld h1).andThen .now
    rw [h2] at z
    exact z
theorem leads_of {h : Heap} {kf : Value → NestedKey} {c : Nat} : ∀ vs : List Value, (∀ v ∈ vs, Pure h (kf v) v ∧ Leads c (kf v)) → ∃ fs, KatTups h vs fs ∧ fs.length = vs.length ∧ ∀ f ∈ fs, ∃ x, Pure h x f ∧ kindN x = c
  | [], _ => ⟨[], KatTups.nil, rfl, fun f z => by cases z⟩
  | v :: vs, hv => by
    obtain ⟨fs, f1, f2, f3⟩ := leads_of vs fun u hu => hv u (List.mem_cons_of_mem _ hu)
    obtain ⟨p, x, xs, e, k⟩ := hv v List.mem_cons_self
    rw [e] at p
    cases p with
    | @tup a o us n _ h1 h2 h3 h4 =>
      cases h5 : us.toList with
      | nil => rw [h5] at h4; cases h4
      | cons f r =>
        rw [h5] at h4
        cases h4 with
        | cons q1 q2 =>
          refine ⟨f :: fs, KatTups.cons h1 h2 h3 (by rw [← Array.getElem?_toList, h5] <;> rfl) f1, by rw [List.length_cons, List.length_cons, f2], fun g hg => ?_⟩
          rcases List.mem_cons.mp hg with z | z
          · rw [z]
            exact ⟨x, q1, k⟩
          · exact f3 g z
/-- what the sort asks of a list of keys -/
structure Sorts (h : Heap) (c : Nat) (kf : Value → NestedKey) (vs : List Value) : Prop where
  kd : c = 1 ∨ c = 2 ∨ c = 3
  each : ∀ v ∈ vs, Pure h (kf v) v ∧ Leads c (kf v) ∧ (kf v).depth ≤ 8
  two : ∀ u ∈ vs, ∀ v ∈ vs, okK (kf u) (kf v) = true
theorem Sorts.grow {h h' : Heap} {c : Nat} {kf : Value → NestedKey} {vs : List Value} (x : Sorts h c kf vs) (g : ∀ a o, h.get? a = some o → o.cls = .type "tuple" → h'.get? a = some o) : Sorts h' c kf vs :=
  ⟨x.kd, fun v hv => ⟨Pure.grow g _ _ (x.each v hv).1, (x.each v hv).2⟩, x.two⟩
theorem sorts_ok {c : Nat} {kf : Value → NestedKey} {vs : List Value} (x : Sorts s.heap c kf vs) (some_ : 0 < vs.length) (hu : A.units + 8 < cLine) {a : Addr} (ha : ∀ o, s.heap.get? a = some o → o.cls ≠ .type "tuple") : SrtO.SortableO P w A s a vs fun u v => ltK (kf u) (kf v) := by
  intro h' keep
  have y : Sorts h' c kf vs := x.grow fun b o e z => keep b o (fun q => ha o (q ▸ e) z) e
  obtain ⟨fs, f1, f2, f3⟩ := leads_of (h := h') (c := c) vs fun v hv => ⟨(y.each v hv).1, (y.each v hv).2.1⟩
  refine ⟨tuples' (Value.type (tyN c) != Value.type "tuple"), fun Q E q => ?_, fun p q hp hq => ?_⟩
  · refine kat_kind (T := .type (tyN c)) f1 (by omega) (fun f hf => ?_) (by simp) q
    obtain ⟨z, z1, z2⟩ := f3 f hf
    exact lead_look z1 y.kd z2
  · obtain ⟨p1, ⟨x1, xs1, e1, k1⟩, d1⟩ := y.each p.1 hp
    obtain ⟨p2, ⟨x2, xs2, e2, k2⟩, d2⟩ := y.each q.1 hq
    have ok := y.two _ hp _ hq
    show wpAny _ _ (keyLt' _ p.1 q.1) (fun r s' => s' = _ ∧ r = ltK (kf p.1) (kf q.1)) _ _
    generalize kf p.1 = kp at *
    generalize kf q.1 = kq at *
    subst e1 e2
    obtain ⟨u, u'⟩ := p
    obtain ⟨v, v'⟩ := q
    dsimp only at p1 p2 ⊢
    cases p1 with
    | @tup l o us n _ h1 h2 h3 h4 =>
      cases p2 with
      | @tup l' o' us' n' _ g1 g2 g3 g4 =>
        simp only [okK] at ok
        simp only [NestedKey.depth] at d1 d2
        refine kat_lt h1 h3 g1 g3 (lex_asks (s := { s with heap := h' }) _ _ _ _ 0 _ _ ok h4 g4 (by omega) (fun hb _ x y ex ey => ?_) ?_ ⟨rfl, by simp only [ltK]⟩)
        · obtain rfl : x1 = x := Option.some.inj ex
          obtain rfl : x2 = y := Option.some.inj ey
          rcases x.kd with e | e | e
          · exact .inl ⟨k1.trans e, k2.trans e⟩
          · exact .inr ⟨k1.trans e, k2.trans e⟩
          · rw [e] at hb
            exact absurd hb (by decide)
        · have n1 : us.size = (x1 :: xs1).length := by simpa using h4.len
          have n2 : us'.size = (x2 :: xs2).length := by simpa using g4.len
          rw [n1, n2]
/-- sorted(xs) -/
theorem sorted_list {l : Addr} {vs : List Value} {c : Nat} {kf : Value → NestedKey} {Q : Value → Shared → Prop} (x : Sorts s.heap c kf vs) (hl : s.heap.IsList l vs.toArray) (hz : vs.length ≤ sizeLine) (hu : A.units + 16 < cLine)
    (h : ∀ (h' : Heap) (d : Addr) (out : List Value), SrtO.Srtd (fun u v => ltK (kf u) (kf v)) out → out.Perm vs → (∀ b o, s.heap.get? b = some o → h'.get? b = some o) → s.heap.objs.size ≤ d → (∃ n, h'.get? d = some (seqObj "list" out.toArray n)) → Q (.ref d) { s with heap := h' }) :
    wpAny (model P w) A (call (.builtin "sorted") [.ref l]) Q E s := by
  refine SrtO.sorted_ord (swo_by kf) hl hz (fun h2 h1 a ha kk => ?_) fun out hs hb => h _ _ out hs hb.perm (fun b o e => sortedAll_old e) (Nat.le_succ _) (sortedAll_at s.heap vs out.toArray)
  refine sorts_ok (s := { s with heap := h1 }) (x.grow fun b o e _ => (kk b o e).2) (by omega) (by simp only [Around.in1_units]; omega) fun o e z => ?_
  rw [ha] at e
  cases e
  exact absurd (Value.type.inj z) (by decide)
/-- sorted(a set) -/
theorem sorted_set {a : Addr} {M : List Row} {rs : Array (Int × Value)} {n : Nat} {t : SetTable} {c : Nat} {kf : Value → NestedKey} {Q : Value → Shared → Prop} (S : Holds w s.heap a M rs n t) (hh : A.handled = none) (hu : A.units + 16 < cLine)
    (hk : ∀ m ∈ M, kf (.ref m.1) = m.2) (x : Sorts s.heap c kf (M.map fun m => Value.ref m.1))
    (h : ∀ s' p out (M' : List Row) e, (∀ b o, s.heap.get? b = some o → s'.heap.get? b = some o) → s'.gens = s.gens → s'.os = s.os → s.heap.objs.size ≤ p → s'.heap.get? p = some (seqObj "list" out e) → out.toList = M'.map (fun m => Value.ref m.1) → M'.Perm M →
      M'.Pairwise (fun m m' => ltK m.2 m'.2 = true) → Q (.ref p) s') : wpAny (model P w) A (call (.builtin "sorted") [.ref a]) Q E s := by
  obtain ⟨o, ho, hex, hd⟩ := S.obj
  have sz := size_of S.is
  have few := S.few
  refine Calls.call_function_entry kind_sorted plain_sorted entry_sorted (args_sorted1 _) ?_
  unfold Builtin.«sorted»
  refine wpAny_bind (m := checkCount "sorted" 1 1 _) (wpAny_pure ?_)
  refine wpAny_bind (collect_set (A := A.in1) hh ⟨o, ho, hex.1, hd⟩ S.fits (by unfold scanBound; omega) S.tab.ris S.led fun s1 vs g1 z1 g2 o1 pm => ?_)
  have ev : rs.toList.map (·.2) = M.map fun m => Value.ref m.1 := by rw [S.is, List.map_map] <;> rfl
  rw [ev] at pm
  have len : vs.length = M.length := by rw [pm.length_eq, List.length_map]
  -- the rows in the order of vs
  have rows : ∀ us : List Value, us.Perm (M.map fun m => Value.ref m.1) → ∃ M' : List Row, us = M'.map (fun m => Value.ref m.1) ∧ M'.Perm M := fun us pu => by
    have inj : ∀ m ∈ M, ∀ m' ∈ M, Value.ref m.1 = Value.ref m'.1 → m = m' := fun m hm m' hm' e => by
      have k := hk m hm
      rw [e, hk m' hm'] at k
      obtain ⟨b, kb⟩ := m
      obtain ⟨b', kb'⟩ := m'
      cases e
      dsimp only at k
      rw [k]
    have key : ∀ us : List Value, ∀ N : List Row, us.Perm (N.map fun m => Value.ref m.1) → ∃ M' : List Row, us = M'.map (fun m => Value.ref m.1) ∧ M'.Perm N := by
      intro us
      induction us with
      | nil =>
        intro N q
        have e : N = [] := List.map_eq_nil_iff.mp q.symm.eq_nil
        exact ⟨[], rfl, by rw [e]⟩
      | cons u us ih =>
        intro N q
        obtain ⟨m, hm, e⟩ := List.mem_map.mp (q.mem_iff.mp List.mem_cons_self)
        obtain ⟨N1, N2, eN⟩ := List.append_of_mem hm
        have q2 : (u :: us).Perm (u :: (N1 ++ N2).map fun m => Value.ref m.1) := by
          refine q.trans ?_
          rw [eN, List.map_append, List.map_cons, List.map_append, e]
          exact List.perm_middle
        obtain ⟨M', e', p'⟩ := ih (N1 ++ N2) q2.cons_inv
        refine ⟨m :: M', by rw [List.map_cons, e, ← e'], ?_⟩
        rw [eN]
        exact (p'.cons m).trans List.perm_middle.symm
    exact key us M pu
  refine wpAny_bind (wpAny_newList ?_ (by rw [sizeLine_eq]; omega))
  have isL : (s1.heap.push (seqObj "list" vs.toArray 0)).get? s1.heap.objs.size = some (seqObj "list" vs.toArray 0) := Heap.get?_push_size _ rfl
  have y : Sorts (s1.heap.push (seqObj "list" vs.toArray 0)) c kf vs := by
    have z : Sorts (s1.heap.push (seqObj "list" vs.toArray 0)) c kf (M.map fun m => Value.ref m.1) := x.grow fun b u e _ => Heap.get?_push_of_some _ (g1 b u e)
    exact ⟨z.kd, fun v hv => z.each v (pm.mem_iff.mp hv), fun u hu' v hv => z.two u (pm.mem_iff.mp hu') v (pm.mem_iff.mp hv)⟩
  refine wpAny_bind (wpAny_holding (wpAny_call_entry slot_list_sort ⟨_, isL, rfl⟩ entry_list_sort (SrtO.list_sort_ord (s := { s1 with heap := s1.heap.push (seqObj "list" vs.toArray 0) }) (swo_by kf) isL (by rw [sizeLine_eq]; omega) (fun two => ?_) fun out hs hb => ⟨_, rfl, ?_⟩) (args_list_sort _)))
  · refine sorts_ok (s := { s1 with heap := s1.heap.push (seqObj "list" vs.toArray 0) }) y (by omega) (by simp only [Around.in1_units]; omega) fun o' e z => ?_
    rw [isL] at e
    cases e
    exact absurd (Value.type.inj z) (by decide)
  · obtain ⟨e, he⟩ := sortedHeap_at (out := out.toArray) isL
    obtain ⟨M', eo, pM⟩ := rows out (hb.perm.trans pm)
    refine wpAny_pure ⟨_, rfl, h _ s1.heap.objs.size out.toArray M' e (fun b u q => ?_) g2 o1 z1 he eo pM ?_⟩
    · have q1 := g1 b u q
      have lt := Heap.lt_size q1
      show (sortedHeap (s1.heap.push (seqObj "list" vs.toArray 0)) s1.heap.objs.size vs out.toArray).get? b = some u
      rw [sortedHeap_old (Nat.ne_of_lt lt) (by rw [size_push']; exact Nat.lt_succ_of_lt lt)]
      exact Heap.get?_push_of_some _ q1
    · have nd : (M'.map (·.2)).Nodup := (pM.map (·.2)).nodup_iff.mpr S.nd
      rw [eo] at hs
      have z := List.pairwise_map.mp hs
      have z2 := List.pairwise_map.mp nd
      refine List.Pairwise.imp_of_mem (fun {m m'} hm hm' hp => ?_) (z.and z2)
      have k1 := hk m (pM.mem_iff.mp hm)
      have k2 := hk m' (pM.mem_iff.mp hm')
      obtain ⟨hp1, hp2⟩ := hp
      dsimp only at hp1
      rw [k1, k2] at hp1
      rcases ltK_tot _ _ hp2 with q | q
      · exact q
      · rw [q] at hp1
        cases hp1
end
end NS

/-! ## N8 -/
set_option maxRecDepth 100000
set_option maxHeartbeats 2000000
/-! N8: sets and sorted lists of keys as rules of the layer -/
namespace NS
open PySem PySem.Spec PyProof.Rows L2
mutual
/-- the value is this key -/
inductive Kv (K : PySem.W.Frag) (H : Hp) : V → NestedKey → Prop
  | non : Kv K H .non .none
  | int (i : Int) : Kv K H (.int i) (.num i)
  | str (x : Str) : Kv K H (.str x) (.text x)
  | tup {t : Addr} {vs : List V} {ks : List NestedKey} : SqT K H t vs → KvAll K H vs ks → Kv K H (.ref t) (.tup ks)
inductive KvAll (K : PySem.W.Frag) (H : Hp) : List V → List NestedKey → Prop
  | nil : KvAll K H [] []
  | cons {v : V} {k : NestedKey} {vs : List V} {ks : List NestedKey} : Kv K H v k → KvAll K H vs ks → KvAll K H (v :: vs) (k :: ks)
end
mutual
theorem kv_same {K : PySem.W.Frag} {H H' : Hp} (g : ∀ t vs, SqT K H t vs → SqT K H' t vs) : ∀ (k : NestedKey) (v : V), Kv K H v k → Kv K H' v k
  | .none, _, x => by cases x; exact .non
  | .num _, _, x => by cases x; exact .int _
  | .text _, _, x => by cases x; exact .str _
  | .tup ks, _, x => by
    cases x with
    | tup h1 h2 => exact .tup (g _ _ h1) (kvs_same g ks _ h2)
theorem kvs_same {K : PySem.W.Frag} {H H' : Hp} (g : ∀ t vs, SqT K H t vs → SqT K H' t vs) : ∀ (ks : List NestedKey) (vs : List V), KvAll K H vs ks → KvAll K H' vs ks
  | [], _, x => by cases x; exact .nil
  | k :: ks, _, x => by
    cases x with
    | cons h1 h2 => exact .cons (kv_same g k _ h1) (kvs_same g ks _ h2)
end
section
variable {X : Cx} {pins : List (Addr × Obj)} {σ : L2.St} {H : Hp} {s : Shared}
mutual
theorem pure_of (I : Inv X pins σ H s) : ∀ (k : NestedKey) (v : V) (u : Value), Kv X.K H v k → RelV v u → Pure s.heap k u
  | .none, _, u, x, r => by cases x; cases r; exact .none
  | .num i, _, u, x, r => by
    cases x
    obtain ⟨t, rfl⟩ := r
    exact .int _ _
  | .text z, _, u, x, r => by
    cases x
    obtain ⟨t, rfl⟩ := r
    exact .text _ _
  | .tup ks, _, u, x, r => by
    cases x with
    | @tup t vs _ h1 h2 =>
      obtain rfl : u = Value.ref t := r
      obtain ⟨its, rv, ⟨o, ho, hc, n, hd⟩, _⟩ := I.tuple h1
      exact .tup ho hc hd (by simpa using pures_of I ks vs its h2 rv)
theorem pures_of (I : Inv X pins σ H s) : ∀ (ks : List NestedKey) (vs : List V) (us : List Value), KvAll X.K H vs ks → Vals vs us → PureAll s.heap ks us
  | [], _, _, x, r => by cases x; cases r; exact .nil
  | k :: ks, _, _, x, r => by
    cases x with
    | cons h1 h2 =>
      cases r with
      | cons r1 r2 => exact .cons (pure_of I k _ _ h1 r1) (pures_of I ks _ _ h2 r2)
end
/-- a row of the layer: where the key stands, the key -/
def Kr (K : PySem.W.Frag) (H : Hp) (m : Row) : Prop := Kv K H (.ref m.1) m.2 ∧ m.2.depth ≤ 8
theorem at_of_kr (I : Inv X pins σ H s) {m : Row} (h : Kr X.K H m) : At s.heap m.2 m.1 := ⟨Pure.is _ _ (pure_of I _ _ _ h.1 rfl), h.2⟩
/-- the set at a -/
def SetN (w : World) (a : Addr) (M : List Row) : HO := .ext fun h => ∃ rs n t, Holds w h a M rs n t
theorem setN_new {P : Program} {w : World} {H : Hp} {h : Heap} {a : Addr} {M : List Row} (S : ∃ rs n t, Holds w h a M rs n t) : ObjOk P w H h a (SetN w a M) := by
  obtain ⟨rs, n, t, S⟩ := S
  obtain ⟨o, ho, _⟩ := S.obj
  exact ⟨⟨rs, n, t, S⟩, ⟨o, ho⟩, fun h1 h2 ⟨rs', n', t', S'⟩ g => ⟨rs', n', t', S'.grow g⟩⟩
theorem refs_row : ∀ {N : List Row} {us : List Value}, Vals (N.map fun m => V.ref m.1) us → us = N.map fun m => Value.ref m.1
  | [], _, r => by cases r; rfl
  | m :: N, _, r => by
    cases r with
    | cons r1 r2 =>
      cases r1
      rw [refs_row r2]
      rfl
theorem row_refs : ∀ N : List Row, Vals (N.map fun m => V.ref m.1) (N.map fun m => Value.ref m.1)
  | [] => .nil
  | _ :: N => .cons rfl (row_refs N)
/-- set(xs) of a list of keys -/
def rSetOf (K : PySem.W.Frag) (w : World) : List V → Hp → VK → Prop := fun xs H Q => ∃ (l : Addr) (N : List Row), xs = [V.ref l] ∧ SqL K H l (N.map fun m => V.ref m.1) ∧ (∀ m ∈ N, Kr K H m) ∧ N.length < 64 ∧
  ∀ a M, H a = none → (∀ m ∈ M, m ∈ N) → (∀ m ∈ N, m.2 ∈ M.map (·.2)) → (M.map (·.2)).Nodup → Q (.ref a) (upd H a (SetN w a M))
theorem cr_setOf (hc : X.calm = true) (hu : X.A.units + 64 < cLine) : CallR X (.type "set") (rSetOf X.K X.w) := by
  intro pins s σ H xs us Q I r h
  obtain ⟨l, N, rfl, hl, hk, few, q⟩ := h
  rw [Vals.ref1 r]
  obtain ⟨its, rv, pl, hz⟩ := I.list hl
  refine set_keys (P := X.prog) (w := X.w) (N := N) (I.ok.hd hc) pl.isList (by simpa using refs_row rv) (fun m hm => at_of_kr I (hk m hm)) few (by omega) fun h' tk M rs c t S T g => ?_
  exact ⟨.ref s.heap.objs.size, upd H s.heap.objs.size (SetN X.w s.heap.objs.size M), I.laid (t' := tk) g (Nat.le_refl _) (setN_new ⟨rs, c, t, S⟩), rfl, q _ M (I.hok.fresh (Nat.le_refl _)) T.sub (fun m hm => T.all m (by rw [List.take_length]; exact hm)) S.nd⟩
/-- by their addresses, the keys -/
def keyOf (N : List Row) (u : Value) : NestedKey := ((N.find? fun m => match u with | .ref b => m.1 == b | _ => false).map (·.2)).getD .none
theorem keyOf_at {N : List Row} (one : ∀ m ∈ N, ∀ m' ∈ N, m.1 = m'.1 → m.2 = m'.2) {m : Row} (hm : m ∈ N) : keyOf N (.ref m.1) = m.2 := by
  unfold keyOf
  cases e : N.find? fun m' => m'.1 == m.1 with
  | none =>
    have z := List.find?_eq_none.mp e m hm
    simp at z
  | some m' =>
    have z := List.find?_some e
    exact one m' (List.mem_of_find?_eq_some e) m hm (eq_of_beq z)
/-- such keys are sorted by their order -/
structure Lined (c : Nat) (N : List Row) : Prop where
  kd : c = 1 ∨ c = 2 ∨ c = 3
  lead : ∀ m ∈ N, Leads c m.2
  two : ∀ m ∈ N, ∀ m' ∈ N, okK m.2 m'.2 = true
theorem sorts_of (I : Inv X pins σ H s) {N : List Row} {c : Nat} (hk : ∀ m ∈ N, Kr X.K H m) (L : Lined c N) : Sorts s.heap c (keyOf N) (N.map fun m => Value.ref m.1) ∧ ∀ m ∈ N, keyOf N (.ref m.1) = m.2 := by
  have one : ∀ m ∈ N, ∀ m' ∈ N, m.1 = m'.1 → m.2 = m'.2 := fun m hm m' hm' e => by
    have x := at_of_kr I (hk m hm)
    rw [e] at x
    exact x.one (at_of_kr I (hk m' hm'))
  have at_ : ∀ m ∈ N, keyOf N (.ref m.1) = m.2 := fun m hm => keyOf_at one hm
  refine ⟨⟨L.kd, fun v hv => ?_, fun u hu v hv => ?_⟩, at_⟩
  · obtain ⟨m, hm, rfl⟩ := List.mem_map.mp hv
    rw [at_ m hm]
    exact ⟨pure_of I _ _ _ (hk m hm).1 rfl, L.lead m hm, (hk m hm).2⟩
  · obtain ⟨m, hm, rfl⟩ := List.mem_map.mp hu
    obtain ⟨m', hm', rfl⟩ := List.mem_map.mp hv
    rw [at_ m hm, at_ m' hm']
    exact L.two m hm m' hm'
/-- sorted(a set of keys) -/
def rSortSet (K : PySem.W.Frag) (w : World) : List V → Hp → VK → Prop := fun vs H Q => ∃ (a : Addr) (M : List Row) (c : Nat), vs = [V.ref a] ∧ H a = some (SetN w a M) ∧ (∀ m ∈ M, Kr K H m) ∧ Lined c M ∧
  ∀ (M' : List Row) (p : Addr), M'.Perm M → M'.Pairwise (fun m m' => ltK m.2 m'.2 = true) → H p = none → Q (.ref p) (upd H p (.lst (M'.map fun m => V.ref m.1)))
theorem cr_sortSet (hc : X.calm = true) (hu : X.A.units + 64 < cLine) : CallR X (.builtin "sorted") (rSortSet X.K X.w) := by
  intro pins s σ H vs us Q I r h
  obtain ⟨a, M, c, rfl, ha, hk, L, q⟩ := h
  obtain ⟨rs, n, t, S⟩ := (I.hok a _ ha).1
  rw [Vals.ref1 r]
  obtain ⟨So, at_⟩ := sorts_of I hk L
  refine sorted_set S (I.ok.hd hc) (by omega) at_ So fun s' p out M' e g g2 o hp hg ho pm pw => ?_
  have few : M'.length < 64 := by rw [pm.length_eq]; exact S.few
  have len : (M'.map fun m => V.ref m.1).length ≤ sizeLine := by rw [List.length_map, sizeLine_eq]; omega
  have J : Inv X pins σ (upd H p (.lst (M'.map fun m => V.ref m.1))) { s with heap := s'.heap, gens := s'.gens, drawn := s'.drawn, toks := s'.toks } :=
    I.call (ch := []) (Un.laid g hp (I.hok.fresh hp)) (I.hok.laid g hp ⟨len, out.toList, e, by rw [ho]; exact row_refs M', by simpa using hg⟩) (by rw [g2]; exact I.bare) fun _ z => nomatch z
  have es : s' = { s with heap := s'.heap, gens := s'.gens, drawn := s'.drawn, toks := s'.toks } := by
    cases s'
    cases s
    cases o
    rfl
  rw [es]
  exact ⟨.ref p, _, J, rfl, q M' p pm pw (I.hok.fresh hp)⟩
/-- sorted(a list of keys) -/
def rSortList (K : PySem.W.Frag) : List V → Hp → VK → Prop := fun vs H Q => ∃ (l : Addr) (N : List Row) (c : Nat), vs = [V.ref l] ∧ SqL K H l (N.map fun m => V.ref m.1) ∧ (∀ m ∈ N, Kr K H m) ∧ Lined c N ∧
  ∀ (M' : List Row) (p : Addr), M'.Perm N → M'.Pairwise (fun m m' => ltK m'.2 m.2 = false) → H p = none → Q (.ref p) (upd H p (.lst (M'.map fun m => V.ref m.1)))
theorem perm_rows (N : List Row) : ∀ us : List Value, us.Perm (N.map fun m => Value.ref m.1) → ∃ M' : List Row, us = M'.map (fun m => Value.ref m.1) ∧ M'.Perm N := by
  intro us
  induction us generalizing N with
  | nil =>
    intro q
    have e : N = [] := List.map_eq_nil_iff.mp q.symm.eq_nil
    exact ⟨[], rfl, by rw [e]⟩
  | cons u us ih =>
    intro q
    obtain ⟨m, hm, e⟩ := List.mem_map.mp (q.mem_iff.mp List.mem_cons_self)
    obtain ⟨N1, N2, eN⟩ := List.append_of_mem hm
    have q2 : (u :: us).Perm (u :: (N1 ++ N2).map fun m => Value.ref m.1) := by
      refine q.trans ?_
      rw [eN, List.map_append, List.map_cons, List.map_append, e]
      exact List.perm_middle
    obtain ⟨M', e', p'⟩ := ih (N1 ++ N2) q2.cons_inv
    refine ⟨m :: M', by rw [List.map_cons, e, ← e'], ?_⟩
    rw [eN]
    exact (p'.cons m).trans List.perm_middle.symm
theorem cr_sortList (hu : X.A.units + 64 < cLine) : CallR X (.builtin "sorted") (rSortList X.K) := by
  intro pins s σ H vs us Q I r h
  obtain ⟨l, N, c, rfl, hl, hk, L, q⟩ := h
  rw [Vals.ref1 r]
  obtain ⟨its, rv, pl, hz⟩ := I.list hl
  have ei := refs_row rv
  subst ei
  obtain ⟨So, at_⟩ := sorts_of I hk L
  have hz2 : (N.map fun m => Value.ref m.1).length ≤ sizeLine := by
    rw [List.length_map] at hz ⊢
    exact hz
  refine sorted_list So pl.isList hz2 (by omega) fun h' d out hs pm g hd hn => ?_
  obtain ⟨M', eo, pM⟩ := perm_rows N out pm
  obtain ⟨n, hn⟩ := hn
  have len : (M'.map fun m => V.ref m.1).length ≤ sizeLine := by
    rw [List.length_map, pM.length_eq]
    rw [List.length_map] at hz
    exact hz
  refine ⟨.ref d, upd H d (.lst (M'.map fun m => V.ref m.1)), I.laid (t' := s.toks) g hd ⟨len, out, n, by rw [eo]; exact row_refs M', hn⟩, rfl, q M' d pM ?_ (I.hok.fresh hd)⟩
  rw [eo] at hs
  refine List.Pairwise.imp_of_mem (fun {m m'} hm hm' hp => ?_) (List.pairwise_map.mp hs)
  dsimp only at hp
  rw [at_ m (pM.mem_iff.mp hm), at_ m' (pM.mem_iff.mp hm')] at hp
  exact hp
end
end NS

/-! ## P1 -/
set_option maxRecDepth 100000
set_option maxHeartbeats 2000000
/-! ### special methods of a class of the text: ==, !=, in, len, str; keys compared -/
namespace K0
open PySem PySem.Spec PyProof.Rows L2
section
variable {X : Cx}
/-- k < l of keys -/
def rLtN (K : PySem.W.Frag) : R2 := fun x y H Q => ∃ kx ky, NS.Kv K H x kx ∧ NS.Kv K H y ky ∧ NS.okK kx ky = true ∧ kx.depth ≤ 8 ∧ Q (.bl (NS.ltK kx ky)) H
theorem op_ltN (hu : X.A.units + 64 < cLine) : OpR X (compareOp .Lt) (rLtN X.K) := by
  intro pins s σ H x y v u Q I rx ry h
  obtain ⟨kx, ky, hx, hy, ok, hd, q⟩ := h
  exact NS.rich kx ky X.A s v u ok (NS.pure_of I _ _ _ hx rx) (NS.pure_of I _ _ _ hy ry) (by omega) X.prog X.w X.xe _ ⟨.bl _, H, I, rfl, q⟩
end
/-! ### the type of a value, for comparisons -/
section
variable {X : Cx} {pins : List (Addr × Obj)} {σ : L2.St} {H : Hp} {s : Shared} {M : Model}
inductive TyS (K : PySem.W.Frag) (H : Hp) : V → Value → Prop
  | non : TyS K H .non (.type "NoneType")
  | str (z : Str) : TyS K H (.str z) (.type "str")
  | tup {a : Addr} {xs : List V} (h : SqT K H a xs) : TyS K H (.ref a) (.type "tuple")
  | ins {a C dx : Addr} {fs : List (Str × V)} (h : H a = some (.ins C dx fs)) : TyS K H (.ref a) (.ref C)
theorem tyS_looks {y : V} {u t : Value} (I : Inv X pins σ H s) (ry : RelV y u) (h : TyS X.K H y t) : PySem.W.Looks M s.heap (typeOf u) t := by
  cases h with
  | non => cases ry; exact PySem.W.Looks.now
  | str z => obtain ⟨k, rfl⟩ := ry; exact PySem.W.Looks.now
  | tup h =>
    cases ry
    obtain ⟨its, r, ⟨o, ho, hc, n, hd⟩, hz⟩ := I.tuple h
    rw [← hc]
    exact (PySem.W.Looks.ld (part := none) ho).andThen .now
  | ins h =>
    cases ry
    obtain ⟨mA, J, _⟩ := ins_get I.hok h
    obtain ⟨od, J, _⟩ := J.look
    exact J.type
end
/-- x == y, x of the class at C whose == is the def at g -/
def rEqOwn (K : PySem.W.Frag) (C : Addr) (sp : Sp) (E : XK) : R2 := fun x y H Q => ∃ a dx fs t, x = .ref a ∧ H a = some (.ins C dx fs) ∧ TyS K H y t ∧ PySem.W.notFirst K C t = true ∧ sp [x, y] H Q E
section
variable {X : Cx} {CX : CXT} {n : Nat} {C g : Addr} {sp : Sp} {E : XK}
theorem op_eqOwn (hs : PySem.W.findIn X.K (.ref C) "__eq__" = some (some (.ref g))) (hf : PySem.W.isFn X.K (.ref g) = true) (F : FnR X.prog X.w X.K X.mg X.base CX n g sp)
    (hr : Room n X.A) (hx : Passes CX X E) : OpR X (compareOp .Eq) (rEqOwn X.K C sp E) := by
  intro pins s σ H x y v u Q I rx ry h
  obtain ⟨a, dx, fs, t, rfl, ha, ty, hn, q⟩ := h
  cases (show v = Value.ref a from rx)
  obtain ⟨mA, J, _⟩ := ins_get I.hok ha
  obtain ⟨od, J, _⟩ := J.look
  obtain ⟨m, hF⟩ := I.fr
  show wpAny _ _ (richCompare .Eq (.ref a) u) _ _ _
  refine PySem.W.cmp_K (op := .Eq) (tb := t) hr.units0 hF I.ok.mod.kin J (tyS_looks I ry ty) hn hs hf ?_
  refine wpAny_mono (wpAny_call (run_fnR (us := [.ref a, u]) (vs := [.ref a, y]) F hr hx I (.cons rfl (.cons ry .nil)) q)) (fun w s' z => ?_) fun _ _ x => x
  obtain ⟨z', H', I', rz, qz⟩ := z
  exact SlX.cmpback rz ⟨z', H', I', rz, qz⟩
end
end K0

/-! ## P2 -/
set_option maxRecDepth 100000
set_option maxHeartbeats 2000000
namespace K0
open PySem PySem.Spec PyProof.Rows L2
/-! ### x != y by object.__ne__ over the text's own == -/
section
variable {prog : Program} {w : World} {A : Around} {E : Value → Shared → Prop} {s : Shared} {K : PySem.W.Frag} {x C f : Addr} {ox : Obj} {od : Option Obj} {b : Value}
theorem ne_entry {P : PySem.Fin → Shared → Prop} (hu : A.units < cLine) (X : K.In s.heap) (I : PySem.W.InstAt s.heap x ox C od) (hs : PySem.W.findIn K (.ref C) "__eq__" = some (some (.ref f))) (hf : PySem.W.isFn K (.ref f) = true)
    (h : wpAny (model prog w) A (call (.ref f) [.ref x, b]) (fun v s' => ∃ c, v = .bool c ∧ P (.done (.ret (.bool (!c)))) s') E s) : wpAny (model prog w) A (Builtin.«object.__ne__» ⟨[.ref x, b], []⟩) P E s := by
  unfold Builtin.«object.__ne__»
  refine wpAny_bind (m := slotArgs "__ne__" 1 _) (wpAny_pure ?_)
  refine wpAny_bind (wpAny_cRoomFor hu ?_)
  refine wpAny_bind (PySem.W.ifBound_K X I hs hf (wpAny_mono h (fun v s' hv => ?_) fun _ _ e => e))
  obtain ⟨c, rfl, hq⟩ := hv
  refine wpAny_bind (wpAny_truthy_bool ?_)
  exact wpAny_pure hq
theorem ifBound_ne {args : List Value} {Q : Option Value → Shared → Prop} (X : K.In s.heap) (I : PySem.W.InstAt s.heap x ox C od) (hs : PySem.W.findIn K (.ref C) "__ne__" = some (some (.builtin "object.__ne__")))
    (h : wpAny (model prog w) A (call (.builtin "object.__ne__") (.ref x :: args)) (fun v => Q (some v)) E s) : wpAny (model prog w) A (callSpecialIfBound? (.ref x) "__ne__" args) Q E s := by
  simp only [callSpecialIfBound?, bindSpecialIfBound?]
  refine wpAny_holding (wpAny_bind (wpAny_bind (wpAny_bind (I.type.here ((PySem.W.looks_findIn X hs).here ?_)))))
  refine wpAny_bind (wpAny_askSetting (wpAny_ite ?_))
  have fin : wpAny (model prog w) A (call (.builtin "object.__ne__") ([.ref x] ++ args) >>= fun v => pure (some v)) Q E s := wpAny_bind (wpAny_mono h (fun v s' h' => wpAny_pure h') fun _ _ h' => h')
  split
  · exact wpAny_bind (wpAny_of_eq (F.cmp_object.ne.bind _) (wpAny_pure (by exact fin)))
  · exact wpAny_tryCatch (wpAny_bind (wpAny_of_eq (F.cmp_object.ne.bind _) (wpAny_pure (by exact fin))))
theorem ne_K {tb : Value} {Q : Value → Shared → Prop} (hu : A.units + 1 < cLine) (X : K.In s.heap) (I : PySem.W.InstAt s.heap x ox C od) (hb : PySem.W.Looks (model prog w) s.heap (typeOf b) tb) (hn : PySem.W.notFirst K C tb = true) (hm : PySem.W.mroIn K C (.type "object") = some true)
    (hne : PySem.W.findIn K (.ref C) "__ne__" = some (some (.builtin "object.__ne__"))) (hs : PySem.W.findIn K (.ref C) "__eq__" = some (some (.ref f))) (hf : PySem.W.isFn K (.ref f) = true)
    (h : wpAny (model prog w) A.in1 (call (.ref f) [.ref x, b]) (fun v s' => ∃ c, v = .bool c ∧ Q (.bool (!c)) s') E s) : wpAny (model prog w) A (richCompare .NotEq (.ref x) b) Q E s := by
  have one : wpAny (model prog w) A (tryCompare (.ref x) "__ne__" b) (fun r s' => ∃ v, r = some v ∧ Q v s') E s := by
    unfold tryCompare
    refine wpAny_bind (ifBound_ne X I hne ?_)
    refine wpAny_call (codeAny_call_builtin F.cmp_object.ne.plain F.cmpEntry_ne (PySem.W.check_slot F.cmpKind_ne F.cmpSplit_ne (I.type.andThen (PySem.W.looks_mroIn X hm)) (F.cmpArgs_ne _ _) ?_))
    refine ne_entry (by rw [Around.in1_units]; omega) X I hs hf (wpAny_mono h (fun v s' hv => ?_) fun _ _ e => e)
    obtain ⟨c, rfl, hq⟩ := hv
    exact ⟨c, rfl, wpAny_pure ⟨_, rfl, hq⟩⟩
  unfold richCompare
  simp only [oneThing_ref]
  refine wpAny_holding (wpAny_bind (wpAny_cRoomFor (by omega) ?_))
  refine wpAny_bind (I.type.here (wpAny_bind (hb.here ?_)))
  split
  · rename_i q
    have e : PySem.W.subIn K tb (.ref C) = some false := by
      rcases Bool.or_eq_true_iff.mp hn with e | e
      · rw [beq_iff_eq.mp e] at q; simp at q
      · exact beq_iff_eq.mp e
    refine wpAny_bind ((PySem.W.looks_subIn X e).here ?_)
    simp only [Bool.false_eq_true, if_false]
    refine wpAny_bind (wpAny_mono one (fun r s' z => ?_) fun _ _ e => e)
    obtain ⟨v, rfl, hq⟩ := z
    exact wpAny_pure hq
  · refine wpAny_bind (wpAny_pure ?_)
    simp only [Bool.false_eq_true, if_false]
    refine wpAny_bind (wpAny_mono one (fun r s' z => ?_) fun _ _ e => e)
    obtain ⟨v, rfl, hq⟩ := z
    exact wpAny_pure hq
/-! ### x in o by the text's own __contains__ -/
theorem in_K {Q : Bool → Shared → Prop} (X : K.In s.heap) (I : PySem.W.InstAt s.heap x ox C od) (hs : PySem.W.findIn K (.ref C) "__contains__" = some (some (.ref f))) (hf : PySem.W.isFn K (.ref f) = true)
    (h : wpAny (model prog w) A (call (.ref f) [.ref x, b]) (fun v s' => ∃ c, v = .bool c ∧ Q c s') E s) : wpAny (model prog w) A (contains (.ref x) b) Q E s := by
  unfold contains
  refine wpAny_holding ?_
  have e0 : stdlibNamesSay? (.ref x) b = none := by
    unfold stdlibNamesSay?
    rfl
  rw [e0]
  refine wpAny_bind (wpAny_bind (I.type.here ((PySem.W.looks_findIn X hs).here ?_)))
  refine wpAny_ite_split (fun hab => absurd hab (show ¬ ((some (Value.ref f) == some Value.none) = true) from Bool.false_ne_true)) (fun _ => ?_)
  unfold callSpecialUnlessNone?
  refine wpAny_bind (wpAny_bind (wpAny_bind (I.type.here ((PySem.W.looks_findIn X hs).here ?_))))
  refine wpAny_holding (wpAny_bind ((PySem.W.bind_fn X _ (beq_iff_eq.mp hf)).here ?_))
  refine wpAny_ite_split (fun hab => absurd hab (show ¬ ((Value.ref f == Value.none) = true) from Bool.false_ne_true)) (fun _ => ?_)
  refine wpAny_bind (wpAny_mono h (fun v s' hv => ?_) fun _ _ e => e)
  obtain ⟨c, rfl, hq⟩ := hv
  exact wpAny_pure (wpAny_truthy_bool hq)
end
/-- x != y, by the own == -/
def rNeOwn (K : PySem.W.Frag) (C : Addr) (sp : Sp) (E : XK) : R2 := fun x y H Q => ∃ a dx fs t, x = .ref a ∧ H a = some (.ins C dx fs) ∧ TyS K H y t ∧ PySem.W.notFirst K C t = true ∧ sp [x, y] H (fun v H' => ∃ c, v = .bl c ∧ Q (.bl (!c)) H') E
/-- y in o -/
def rInOwn (C : Addr) (sp : Sp) (E : XK) : R2 := fun x y H Q => ∃ a dx fs, y = .ref a ∧ H a = some (.ins C dx fs) ∧ sp [y, x] H (fun v H' => ∃ c, v = .bl c ∧ Q (.bl c) H') E
def rLenOwn (C : Addr) (sp : Sp) (E : XK) : List V → Hp → VK → Prop := fun xs H Q => ∃ a dx fs, xs = [.ref a] ∧ H a = some (.ins C dx fs) ∧ sp xs H (fun v H' => ∃ i : Int, v = .int i ∧ 0 ≤ i ∧ i < 2 ^ 63 ∧ Q (.int i) H') E
def rStrOwn (C : Addr) (sp : Sp) (E : XK) : List V → Hp → VK → Prop := fun xs H Q => ∃ a dx fs, xs = [.ref a] ∧ H a = some (.ins C dx fs) ∧ sp xs H (fun v H' => ∃ z, v = .str z ∧ Q (.str z) H') E
section
variable {X : Cx} {CX : CXT} {n : Nat} {C g : Addr} {sp : Sp} {E : XK}
theorem op_neOwn (hm : PySem.W.mroIn X.K C (.type "object") = some true) (hne : PySem.W.findIn X.K (.ref C) "__ne__" = some (some (.builtin "object.__ne__"))) (hs : PySem.W.findIn X.K (.ref C) "__eq__" = some (some (.ref g))) (hf : PySem.W.isFn X.K (.ref g) = true) (F : FnR X.prog X.w X.K X.mg X.base CX n g sp)
    (hr : Room (n + 1) X.A) (hx : Passes CX X E) : OpR X (compareOp .NotEq) (rNeOwn X.K C sp E) := by
  intro pins s σ H x y v u Q I rx ry h
  obtain ⟨a, dx, fs, t, rfl, ha, ty, hn, q⟩ := h
  cases (show v = Value.ref a from rx)
  obtain ⟨mA, J, _⟩ := ins_get I.hok ha
  obtain ⟨od, J, _⟩ := J.look
  show wpAny _ _ (richCompare .NotEq (.ref a) u) _ _ _
  refine ne_K (by have := hr.units; omega) I.kIn J (tyS_looks I ry ty) hn hm hne hs hf ?_
  refine wpAny_mono (wpAny_call (SlX.run_at (us := [.ref a, u]) (ws := [.ref a, y]) F hr.in1 I.env0.in1 hx I (.cons rfl (.cons ry .nil)) q)) (fun w s' z => ?_) fun _ _ x => x
  obtain ⟨z', H', I', rz, c, rfl, qz⟩ := z
  cases (show w = Value.bool c from rz)
  exact ⟨c, rfl, .bl _, H', I', rfl, qz⟩
theorem op_inOwn (hs : PySem.W.findIn X.K (.ref C) "__contains__" = some (some (.ref g))) (hf : PySem.W.isFn X.K (.ref g) = true) (F : FnR X.prog X.w X.K X.mg X.base CX n g sp)
    (hr : Room n X.A) (hx : Passes CX X E) : OpR X (compareOp .In) (rInOwn C sp E) := by
  intro pins s σ H x y v u Q I rx ry h
  obtain ⟨a, dx, fs, rfl, ha, q⟩ := h
  cases (show u = Value.ref a from ry)
  obtain ⟨mA, J, _⟩ := ins_get I.hok ha
  obtain ⟨od, J, _⟩ := J.look
  show wpAny _ _ (contains (.ref a) v >>= fun r => pure (Value.bool r)) _ _ _
  refine wpAny_bind (in_K I.kIn J hs hf ?_)
  refine wpAny_mono (wpAny_call (run_fnR (us := [.ref a, v]) (vs := [.ref a, x]) F hr hx I (.cons rfl (.cons rx .nil)) q)) (fun w s' z => ?_) fun _ _ x => x
  obtain ⟨z', H', I', rz, c, rfl, qz⟩ := z
  cases (show w = Value.bool c from rz)
  exact ⟨c, rfl, wpAny_pure ⟨.bl _, H', I', rfl, qz⟩⟩
theorem op_notInOwn (hs : PySem.W.findIn X.K (.ref C) "__contains__" = some (some (.ref g))) (hf : PySem.W.isFn X.K (.ref g) = true) (F : FnR X.prog X.w X.K X.mg X.base CX n g sp)
    (hr : Room n X.A) (hx : Passes CX X E) : OpR X (compareOp .NotIn) (fun x y H Q => rInOwn C sp E x y H fun v H' => ∃ c, v = .bl c ∧ Q (.bl (!c)) H') := by
  intro pins s σ H x y v u Q I rx ry h
  obtain ⟨a, dx, fs, rfl, ha, q⟩ := h
  cases (show u = Value.ref a from ry)
  obtain ⟨mA, J, _⟩ := ins_get I.hok ha
  obtain ⟨od, J, _⟩ := J.look
  show wpAny _ _ (contains (.ref a) v >>= fun r => pure (Value.bool (!r))) _ _ _
  refine wpAny_bind (in_K I.kIn J hs hf ?_)
  refine wpAny_mono (wpAny_call (run_fnR (us := [.ref a, v]) (vs := [.ref a, x]) F hr hx I (.cons rfl (.cons rx .nil)) q)) (fun w s' z => ?_) fun _ _ x => x
  obtain ⟨z', H', I', rz, c, rfl, c', e, qz⟩ := z
  cases (show w = Value.bool c from rz)
  cases e
  exact ⟨c, rfl, wpAny_pure ⟨.bl _, H', I', rfl, qz⟩⟩
theorem call_lenOwn (hs : PySem.W.findIn X.K (.ref C) "__len__" = some (some (.ref g))) (hf : PySem.W.isFn X.K (.ref g) = true) (F : FnR X.prog X.w X.K X.mg X.base CX n g sp)
    (hr : Room (n + 1) X.A) (hx : Passes CX X E) : CallR X (.builtin "len") (rLenOwn C sp E) := by
  intro pins s σ H xs us Q I r h
  obtain ⟨a, dx, fs, rfl, ha, q⟩ := h
  obtain ⟨u, rfl, ru⟩ := r.one
  cases (show u = Value.ref a from ru)
  obtain ⟨mA, J, _⟩ := ins_get I.hok ha
  obtain ⟨od, J, _⟩ := J.look
  obtain ⟨m, hF⟩ := I.fr
  refine PySem.W.len_K hF I.ok.mod.kin J hs hf ?_
  refine wpAny_mono (wpAny_call (SlX.run_at (us := [.ref a]) (ws := [.ref a]) F hr.in1 I.env0.in1 hx I (.cons rfl .nil) q)) (fun w s' z => ?_) fun _ _ x => x
  obtain ⟨z', H', I', rz, i, rfl, h0, h1, qz⟩ := z
  obtain ⟨t, e⟩ := (show ∃ t, w = Value.int i t from rz)
  cases e
  exact ⟨⟨h0, h1⟩, .int i, H', I'.tok (s'.toks + 1), ⟨_, rfl⟩, qz⟩
theorem call_strOwn (hs : PySem.W.findIn X.K (.ref C) "__str__" = some (some (.ref g))) (hf : PySem.W.isFn X.K (.ref g) = true) (F : FnR X.prog X.w X.K X.mg X.base CX n g sp)
    (hr : Room (n + 2) X.A) (hx : Passes CX X E) : CallR X (.type "str") (rStrOwn C sp E) := by
  intro pins s σ H xs us Q I r h
  obtain ⟨a, dx, fs, rfl, ha, q⟩ := h
  obtain ⟨u, rfl, ru⟩ := r.one
  cases (show u = Value.ref a from ru)
  obtain ⟨mA, J, _⟩ := ins_get I.hok ha
  obtain ⟨od, J, _⟩ := J.look
  have hr2 : Room n X.A.in1.in1 := (show Room (n + 1) X.A.in1 from Room.in1 hr).in1
  refine PySem.W.kso_call hr2.units0 I.kIn J hs hf ?_
  refine wpAny_mono (wpAny_call (SlX.run_at (us := [.ref a]) (ws := [.ref a]) F hr2 I.env0.in1.in1 hx I (.cons rfl .nil) q)) (fun w s' z => ?_) fun _ _ x => x
  obtain ⟨z', H', I', rz, i, rfl, qz⟩ := z
  obtain ⟨t, e⟩ := (show ∃ t, w = Value.str i t from rz)
  cases e
  exact ⟨.str i, H', I', ⟨_, rfl⟩, qz⟩
end
end K0

/-! ## P3 -/
set_option maxRecDepth 100000
set_option maxHeartbeats 2000000
namespace K0
open PySem PySem.Spec PyProof.Rows L2 ItX
/-! ### a def whose promise speaks of the heap's size when it is entered -/
def FnS (P : Program) (w : World) (K : PySem.W.Frag) (mg : Str → Option Value) (base : Heap) (CX : CXT) (k : Nat) (f : Addr) (sp : Nat → Sp) : Prop :=
  ∀ (A : Around) (outer : List Env) (s : Shared) (H : Hp) (us : List Value) (vs : List V) (Q : VK) (E : XK), Room k A → Env0 P w K mg base A outer s H → Vals vs us → sp s.heap.objs.size vs H Q E →
    codeAny (model P w) A (.call (.ref f) ⟨us, []⟩) (CR CX outer P w H s Q E) s
section
variable {P : Program} {w : World} {K : PySem.W.Frag} {mg : Str → Option Value} {base : Heap}
theorem sfn {x qual : Str} {st : Stmt} {f : Addr} {fd : FuncData} {N ps : List Str} {k : Nat} {sp : Nat → Sp} {CX : CXT} (F : Fun K x qual st f fd) (S : FnScope N ps (defScope st)) (b : Binds K fd ps []) (len : ∀ n vs H Q E, sp n vs H Q E → vs.length = ps.length)
    (hbody : ∀ (cdv : Value) (A : Around) (outer : List Env) (s : Shared) (H : Hp) (vs : List V) (Q : VK) (E : XK), Room k (A.deeper (envOfC qual (defScope st) s.heap.objs.size f cdv)) → sp s.heap.objs.size vs H Q E →
      ∃ t, PSs (cxOf CX P w K mg base N qual (defScope st) f cdv A outer s H E) (defBody st) t ∧ t { nx := fun _ H' => Q .non H', rt := Q } (L2.start N vs) H) : FnS P w K mg base CX (k + 1) f sp := by
  intro A outer s H us vs Q E hr e0 r hsp
  have hl := len _ _ _ _ _ hsp
  have KX : K.In s.heap := e0.mod.kin.keeps fun b o e => (e0.bs b o e).1
  have hb : BindsTo s fd ⟨us, []⟩ (ps.zip us) := by
    have z := b s us KX (by rw [List.append_nil, ← r.length]; exact hl)
    simpa using z
  obtain ⟨oc, od, kV, doc, pm, an, cdv, ct, osl, rfl, lk, hcd⟩ := F.ex
  have lim : s.heap.NoLimit := e0.mod.nolimit.keeps fun b o e => (e0.bs b o e).1
  have hkind : ∀ y ∈ ps.zip us, (defScope st).names.lookup y.1 = some .local ∨ ((defScope st).names.lookup y.1 = some .cell ∧ ((cellsFrom (s.heap.objs.size + 1) (defScope st).names []).lookup y.1).isSome = true) := fun ⟨n, v⟩ hy => by
    rcases S.par n (List.of_mem_zip hy).1 with q | q
    · exact .inl q
    · exact .inr ⟨q, PySem.W.cellsFrom_some _ _ _ (.inl q)⟩
  refine codeAny_call_function hr.depth (KX _ _ lk) rfl S.co S.gen rfl (PySem.W.codeRec_of KX hcd) (hb _ _ _ _ ?_)
  refine wpAny_newFunctionEnv_cells S.kind hkind fun env he s1 x => ?_
  subst he
  refine ⟨lim.keeps x.toInCall.keep, codeAny_func ?_⟩
  obtain ⟨t, ht, hq⟩ := hbody cdv A outer s H vs Q E (hr.deeper _) hsp
  have I : Inv (cxOf CX P w K mg base N qual (defScope st) f cdv A outer s H E) [] (L2.start N vs) H s1 := inv_start S hr.hd e0 hl r x
  refine wpAny_mono (ht.run [] s1 (L2.start N vs) H _ I hq) (fun fl s' hs => ?_) fun e s' hs => hs
  have fin : ∀ {σ' : L2.St} {H' : Hp} {v : V} {u : Value}, Inv (cxOf CX P w K mg base N qual (defScope st) f cdv A outer s H E) [] σ' H' s' → RelV v u → Q v H' → CE outer P w H s Q u s' :=
    fun {σ' H' v u} J rv q => ⟨v, H', J.os, J.bare, J.base, J.hok, rv, q⟩
  cases fl with
  | ret u =>
    obtain ⟨v, σ', H', J, rv, q⟩ := hs
    exact fin J rv q
  | next =>
    obtain ⟨σ', H', J, q⟩ := hs
    exact fin (v := V.non) (u := Value.none) J rfl q
  | brk =>
    obtain ⟨_, _, _, q⟩ := hs
    exact False.elim q
  | cont =>
    obtain ⟨_, _, _, q⟩ := hs
    exact False.elim q
end
/-! ### iter(t), t a tuple -/
def TitO (t it : Addr) : HO := .ext fun h => h.IsTupleIter it t 0
theorem titO_ok {P : Program} {w : World} {H : Hp} {h : Heap} {t it : Addr} (e : h.IsTupleIter it t 0) : ObjOk P w H h it (TitO t it) := by
  obtain ⟨o, ho, r⟩ := e
  refine ⟨⟨o, ho, r⟩, ⟨o, ho⟩, fun h1 h2 q k => ?_⟩
  obtain ⟨o1, a1, a2⟩ := q
  exact ⟨o1, k _ a1, a2⟩
theorem call_iter_tup {prog : Program} {w : World} {A : Around} {E : Value → Shared → Prop} {s : Shared} {l : Addr} {items : Array Value} {Q : Value → Shared → Prop} (hl : s.heap.IsTuple l items)
    (h : Q (.ref s.heap.objs.size) { s with heap := s.heap.push { cls := .type "tuple_iterator", data := .fields #[.ref l, .int 0 0] } }) : wpAny (model prog w) A (call (.builtin "iter") [.ref l]) Q E s := by
  refine Calls.call_function_entry (by decide +kernel) (by decide +kernel) PySem.W.kdk_entry_iter (PySem.W.kdk_args_iter _) ?_
  unfold Builtin.«iter»
  refine wpAny_bind (m := someArgs "iter" 1 2 _) (wpAny_of_eq (a := [Value.ref l]) (by first | rfl | kernel_rfl!) ?_)
  show wpAny _ _ (pyIter (.ref l) >>= _) _ _ _
  refine wpAny_bind (wpAny_pyIter_tuple hl ?_)
  exact wpAny_pure ⟨_, rfl, h⟩
def rIterT (K : PySem.W.Frag) (n : Nat) : List V → Hp → VK → Prop := fun xs H Q => ∃ (t : Addr) (zs : List V), xs = [.ref t] ∧ SqT K H t zs ∧ ∀ it, H it = none → n ≤ it → Q (.ref it) (upd H it (TitO t it))
section
variable {X : Cx}
theorem call_iterT : CallR X (.builtin "iter") (rIterT X.K X.s_0.heap.objs.size) := by
  intro pins s σ H xs us Q I r h
  obtain ⟨t, zs, rfl, hq, q⟩ := h
  obtain ⟨u, rfl, ru⟩ := vals1 r
  cases ru
  obtain ⟨its, rv, pl, hz⟩ := I.tuple hq
  refine call_iter_tup pl ?_
  exact ⟨.ref s.heap.objs.size, _, I.laid (t' := s.toks) (fun b u e => Heap.get?_push_of_some _ e) (Nat.le_refl _) (titO_ok ⟨_, Heap.get?_push_size _ rfl, rfl, rfl⟩), rfl, q _ (I.hok.fresh (Nat.le_refl _)) I.sz⟩
end
/-! ### walking an object whose __iter__ gives the iterator of a tuple that it holds -/
/-- what such an __iter__ promises: fld holds the tuple -/
def spIterT (K : PySem.W.Frag) (C : Addr) (fld : Str) : Nat → Sp := fun n vs H Q _ => ∃ a dx fs t zs, vs = [.ref a] ∧ H a = some (.ins C dx fs) ∧ fs.lookup fld = some (.ref t) ∧ SqT K H t zs ∧ ∀ it, H it = none → n ≤ it → Q (.ref it) (upd H it (TitO t it))
structure ItrC (X : Cx) (n : Nat) (C g : Addr) (fld : Str) : Prop where
  at_ : PySem.W.findIn X.K (.ref C) "__iter__" = some (some (.ref g))
  fn : PySem.W.isFn X.K (.ref g) = true
  ok : FnS X.prog X.w X.K X.mg X.base CX0 n g (spIterT X.K C fld)
section
variable {X : Cx} {pins : List (Addr × Obj)} {σ : L2.St} {H : Hp} {s : Shared} {A : Around} {n : Nat} {C g a dx t it : Addr} {fld : Str} {fs : List (Str × V)} {zs : List V}
theorem sub_env (sb : Sub X n A) (I : Inv X pins σ H s) : Env0 X.prog X.w X.K X.mg X.base A X.stack s H := by
  have e := I.env0
  exact ⟨by rw [sb.fr]; exact e.frames, e.mod, e.bs, e.bsz, e.funs, e.frf, e.hok, e.bare⟩
theorem own_iterT0 {E' : Value → Shared → Prop} {Q : Value → Shared → Prop} (sb : Sub X n A) (T : ItrC X n C g fld) (I : Inv X pins σ H s) (ha : H a = some (.ins C dx fs)) (hf : fs.lookup fld = some (.ref t)) (ht : SqT X.K H t zs)
    (h : ∀ it s', Inv X pins σ (upd H it (TitO t it)) s' → H it = none → X.s_0.heap.objs.size ≤ it → Q (.ref it) s') : wpAny (model X.prog X.w) A (pyIter (.ref a)) Q E' s := by
  obtain ⟨mA, J, _⟩ := ins_get I.hok ha
  obtain ⟨od, J, _⟩ := J.look
  obtain ⟨m, hF⟩ := I.fr
  refine PySem.W.owit_iter hF I.ok.mod.kin J T.at_ T.fn ?_
  have hsp : spIterT X.K C fld s.heap.objs.size [.ref a] H (fun v H' => ∃ it, v = .ref it ∧ H' = upd H it (TitO t it) ∧ H it = none ∧ s.heap.objs.size ≤ it) (fun _ _ _ => False) :=
    ⟨a, dx, fs, t, zs, rfl, ha, hf, ht, fun it h1 h2 => ⟨it, rfl, rfl, h1, h2⟩⟩
  refine wpAny_call (codeAny_mono (T.ok A X.stack s H [.ref a] [.ref a] _ _ sb.room (sub_env sb I) (.cons rfl .nil) hsp) fun r s' hq => ?_)
  cases r with
  | error e => exact False.elim hq
  | ok fl =>
    cases fl with
    | next => exact False.elim hq
    | brk => exact False.elim hq
    | cont => exact False.elim hq
    | ret u =>
      obtain ⟨v, H', I', rv, it, ev, eH, hn, hz⟩ := I.after hq
      subst ev
      subst eH
      cases rv
      have st : s'.heap.IsTupleIter it t 0 := (I'.hok it _ upd_same).1
      show wpAny _ _ (specialOf (.ref it) "__next__") _ _ _
      refine wpAny_specialOf (name := Str.ofString "__next__") st.typeIs F.slot_tuple_iterator_next.lookup ?_
      exact h it s' I' hn (Nat.le_trans I.sz hz)
theorem tit_drop (I : Inv X pins σ (upd H it (TitO t it)) s) (hn : H it = none) (hz : X.s_0.heap.objs.size ≤ it) : Inv X pins σ H s ∧ FpOk X pins H it ∧ s.heap.IsTupleIter it t 0 := by
  have hi : upd H it (TitO t it) it = some (TitO t it) := upd_same
  have st : s.heap.IsTupleIter it t 0 := (I.hok it _ hi).1
  have hi' := hi
  unfold TitO at hi'
  have Id := inv_drop I hi'
  have fp := inv_fp I hi' hz
  have eD : dropH (upd H it (TitO t it)) it = H := dropH_upd hn
  rw [eD] at Id fp
  exact ⟨Id, fp, st⟩
theorem own_iterT {E' : Value → Shared → Prop} {Q : Value → Shared → Prop} (sb : Sub X n A) (T : ItrC X n C g fld) (I : Inv X pins σ H s) (ha : H a = some (.ins C dx fs)) (hf : fs.lookup fld = some (.ref t)) (ht : SqT X.K H t zs)
    (h : ∀ it s', Inv X pins σ H s' → FpOk X pins H it → s'.heap.IsTupleIter it t 0 → Q (.ref it) s') : wpAny (model X.prog X.w) A (pyIter (.ref a)) Q E' s :=
  own_iterT0 sb T I ha hf ht fun it s' I' hn hz => by
    obtain ⟨a1, a2, a3⟩ := tit_drop I' hn hz
    exact h it s' a1 a2 a3
end
/-! ### list(o) -/
section
variable {X : Cx} {pins : List (Addr × Obj)} {σ : L2.St} {H : Hp} {s : Shared} {A1 : Around} {n : Nat} {C g gl a q t it dx : Addr} {fld : Str} {fs : List (Str × V)} {zs : List V}
theorem FpOk.moved {H H' : Hp} {b : Addr} (f : FpOk X pins H b) (h : H' b = none) : FpOk X pins H' b := ⟨h, f.2⟩
theorem tup_loop {Rs : Result → Shared → Prop} (hh : A1.in1.handled = none) (few : zs.length ≤ sizeLine) (hq : H q = none) (ht : SqT X.K H t zs) (fp : FpOk X pins H it) (hqi : it ≠ q)
    (hdone : ∀ s, Inv X pins σ (upd H q (.lst zs)) s → Rs (.ok (.ret .none)) s) :
    ∀ (k i : Nat) (s : Shared), i + k = zs.length → Inv X pins σ (upd H q (.lst (zs.take i))) s → s.heap.IsTupleIter it t i → codeAny (model X.prog X.w) A1 (.builtin "list.extend.loop" ⟨[.ref q, .ref it, .none], []⟩) Rs s := by
  intro k
  induction k with
  | zero =>
    intro i s hi I st
    have e : zs.take i = zs := List.take_of_length_le (by omega)
    rw [e] at I
    refine codeAny_builtin PySem.F.entry_extend_loop ?_
    rw [Around.under_plainId PySem.F.plain_extend_loop _]
    show wpAny _ A1.in1 (pyNext (.ref it) >>= _) _ _ s
    have ht2 : SqT X.K (upd H q (.lst zs)) t zs := seqT (K0.Same.new _ hq) ht
    obtain ⟨its, rv, p, hz⟩ := I.tuple ht2
    have hl := rv.length
    obtain ⟨f0, f1, f2, f3, f4, f5⟩ := FpOk.moved (H' := upd H q (.lst zs)) fp (by rw [upd_ne hqi]; exact fp.1)
    refine wpAny_bind (wpAny_pyNext_tuple_end hh st (show s.heap.IsTuple t its.toArray from p) (by simp; omega) fun h' eb => ?_)
    have I1 : Inv X pins σ (upd H q (.lst zs)) { s with heap := h' } := I.turned (t' := s.toks) (fun b o hb e => eb b o hb e) f0 f1 f3 f4 f5
    exact wpAny_pure (hdone _ I1)
  | succ k ih =>
    intro i s hi I st
    refine codeAny_builtin PySem.F.entry_extend_loop ?_
    rw [Around.under_plainId PySem.F.plain_extend_loop _]
    show wpAny _ A1.in1 (pyNext (.ref it) >>= _) _ _ s
    have ht2 : SqT X.K (upd H q (.lst (zs.take i))) t zs := seqT (K0.Same.new _ hq) ht
    obtain ⟨its, rv, p, hz⟩ := I.tuple ht2
    have hlt : i < zs.length := by omega
    obtain ⟨u, hu, ru⟩ := rv.get (List.getElem?_eq_getElem hlt)
    obtain ⟨f0, f1, f2, f3, f4, f5⟩ := FpOk.moved (H' := upd H q (.lst (zs.take i))) fp (by rw [upd_ne hqi]; exact fp.1)
    refine wpAny_bind (wpAny_pyNext_tuple_item st (show s.heap.IsTuple t its.toArray from p) (x := u) (by simpa using hu) fun h' st' sb => ?_)
    have I1 : Inv X pins σ (upd H q (.lst (zs.take i))) { s with heap := h' } := I.turned (t' := s.toks) (fun b o hb e => (sb.2 b hb).trans e) f0 f1 f3 f4 f5
    show wpAny _ A1.in1 (updateSeq q (·.push u) >>= _) _ _ _
    obtain ⟨z, its2, k2, r2, hl2, e2⟩ := I1.lstM upd_same
    have tk : zs.take (i + 1) = zs.take i ++ [zs[i]] := by rw [List.take_add_one, List.getElem?_eq_getElem hlt]; rfl
    have sz : its2.length ≤ i := by
      rw [← r2.length, List.length_take]
      omega
    refine wpAny_bind (wpAny_updateSeq e2 rfl (wpAny_pure ⟨plainId_quiet PySem.F.plain_extend_loop _, ?_⟩) (by rw [List.size_toArray]; omega) (by show (its2.toArray.push u).size ≤ sizeLine + 1; rw [Array.size_push, List.size_toArray]; omega))
    have I2 := I1.lset (f := (·.push u)) (its' := its2 ++ [u]) (ys := zs.take (i + 1)) (t' := s.toks) upd_same e2 (by simp) (by rw [tk]; exact r2.append (.cons ru .nil)) (by rw [List.length_take]; omega)
    rw [upd_upd] at I2
    refine ih (i + 1) _ (by omega) I2 ?_
    obtain ⟨o, ho, hr⟩ := st'
    exact ⟨o, (Heap.get?_update_other _ _ (Ne.symm hqi)).trans ho, hr⟩
end
/-- list(o), o of the class at C: fld holds the tuple -/
def rListT (K : PySem.W.Frag) (C : Addr) (fld : Str) : List V → Hp → VK → Prop := fun xs H Q => ∃ a dx fs t zs, xs = [.ref a] ∧ H a = some (.ins C dx fs) ∧ fs.lookup fld = some (.ref t) ∧ SqT K H t zs ∧ zs.length ≤ 1000 ∧ ∀ q, H q = none → Q (.ref q) (upd H q (.lst zs))
/-- the length such an object tells -/
def spLenT (K : PySem.W.Frag) (C : Addr) (fld : Str) : Sp := fun vs H Q _ => ∃ a dx fs t zs, vs = [.ref a] ∧ H a = some (.ins C dx fs) ∧ fs.lookup fld = some (.ref t) ∧ SqT K H t zs ∧ Q (.int zs.length) H
structure LenC (X : Cx) (n : Nat) (C g : Addr) (fld : Str) : Prop where
  at_ : PySem.W.findIn X.K (.ref C) "__len__" = some (some (.ref g))
  fn : PySem.W.isFn X.K (.ref g) = true
  ok : FnR X.prog X.w X.K X.mg X.base CX0 n g (spLenT X.K C fld)
section
variable {X : Cx} {pins : List (Addr × Obj)} {σ : L2.St} {H : Hp} {s : Shared} {A : Around} {n : Nat} {C g gl a q t it dx : Addr} {fld : Str} {fs : List (Str × V)} {zs : List V}
theorem own_hintT {E' : Value → Shared → Prop} {Q : Bool → Shared → Prop} (sb : Sub X (n + 1) A) (T : LenC X n C gl fld) (I : Inv X pins σ H s) (ha : H a = some (.ins C dx fs)) (hf : fs.lookup fld = some (.ref t)) (ht : SqT X.K H t zs) (few : zs.length ≤ 1000)
    (h : ∀ s' b, Inv X pins σ H s' → Q b s') : wpAny (model X.prog X.w) A (Builtin.List.listLengthHint (.ref a)) Q E' s := by
  obtain ⟨mA, J, _⟩ := ins_get I.hok ha
  obtain ⟨od, J, _⟩ := J.look
  obtain ⟨m, hF⟩ := I.fr
  unfold Builtin.List.listLengthHint
  refine wpAny_bind (wpAny_bind (J.type.here ((PySem.W.looks_findIn I.kIn T.at_).here ?_)))
  refine PySem.W.KFB.if_not rfl ?_
  refine PySem.W.KFB.if_so rfl ?_
  refine wpAny_bind (wpAny_rule ?_)
  refine wpAny_bind (wpAny_attempt ?_)
  have hsp : spLenT X.K C fld [.ref a] H (fun v H' => v = .int zs.length ∧ H' = H) (fun _ _ _ => False) := ⟨a, dx, fs, t, zs, rfl, ha, hf, ht, rfl, rfl⟩
  refine PySem.W.len_K hF I.ok.mod.kin J T.at_ T.fn ?_
  refine wpAny_call (codeAny_mono (T.ok A.in1 X.stack s H [.ref a] [.ref a] _ _ sb.in1.room (sub_env sb.in1 I) (.cons rfl .nil) hsp) fun r s' hq => ?_)
  cases r with
  | error e => exact False.elim hq
  | ok fl =>
    cases fl with
    | next => exact False.elim hq
    | brk => exact False.elim hq
    | cont => exact False.elim hq
    | ret u =>
      obtain ⟨v, H', I', rv, ev, eH⟩ := I.after hq
      subst ev
      subst eH
      obtain ⟨tk, e⟩ := (show ∃ tk, u = Value.int zs.length tk from rv)
      cases e
      refine ⟨⟨by omega, by omega⟩, ?_⟩
      refine wpAny_bind (wpAny_pure ?_)
      refine PySem.W.KFB.if_not (by unfold Builtin.List.listTooLong; exact decide_eq_false (by rw [sizeLine_eq]; omega)) ?_
      exact wpAny_pure (h _ _ (I'.tok (s'.toks + 1)))
theorem call_listT (Ti : ItrC X n C g fld) (Tl : LenC X n C gl fld) (hc : X.calm = true) (hr : Room (n + 3) X.A) : CallR X (.type "list") (rListT X.K C fld) := by
  intro pins s σ H xs us Q I rv h
  obtain ⟨a, dx, fs, t, zs, rfl, ha, hf, ht, few, hq⟩ := h
  obtain ⟨u, rfl, ru⟩ := rv.one
  cases ru
  have sb : Sub X (n + 1) X.A.in1.in1 := (Sub.in1 (Sub.in1 (⟨hr, rfl⟩ : Sub X (n + 3) X.A)))
  refine callType_codes (Q₁ := fun obj s₁ => obj = .ref s.heap.objs.size ∧ s₁ = { s with heap := s.heap.push { cls := .type "list", data := .seq #[] } }) PySem.F.called_list (PySem.F.typeCall_list_1 _) PySem.F.entry_list_init
    (code_list_new _ ⟨rfl, rfl⟩) fun obj s₁ h₁ => ?_
  obtain ⟨rfl, rfl⟩ := h₁
  have hS : (s.heap.push { cls := .type "list", data := .seq #[] }).get? s.heap.objs.size = some { cls := .type "list", data := .seq #[] } := Heap.get?_push_size _ rfl
  refine ⟨⟨_, hS, rfl⟩, PySem.F.args_list_init_2 _ _, ?_⟩
  have fr : H s.heap.objs.size = none := I.hok.fresh (Nat.le_refl _)
  have hq := hq _ fr
  have I1 : Inv X pins σ (upd H s.heap.objs.size (.lst [])) { s with heap := s.heap.push { cls := .type "list", data := .seq #[] } } := I.lnew (its := []) (t' := s.toks) .nil (Nat.zero_le _)
  show wpAny _ _ (do let old ← Builtin.List.listItems (.ref s.heap.objs.size); Builtin.List.listUpdate (.ref s.heap.objs.size) (fun _ => #[]); letGo old.toList.reverse; Builtin.List.listExtendWith (.ref s.heap.objs.size) (.ref a) .none) _ _ _
  refine wpAny_bind ?_
  unfold Builtin.List.listItems
  refine wpAny_bind (wpAny_seqItems hS rfl (wpAny_pure ?_))
  show wpAny _ _ (updateSeq s.heap.objs.size (fun _ => #[]) >>= fun _ => letGo (#[] : Array Value).toList.reverse >>= fun _ => Builtin.List.listExtendWith (.ref s.heap.objs.size) (.ref a) .none) _ _ _
  refine wpAny_bind (wpAny_updateSeq hS rfl ?_)
  have I2 := I1.lset (f := fun _ => #[]) (its := []) (its' := []) (ys := []) (t' := s.toks) upd_same hS rfl .nil (Nat.zero_le _)
  rw [upd_upd] at I2
  refine wpAny_bind (wpAny_letGo ?_)
  generalize hQ : s.heap.objs.size = q at I2 fr hq ⊢
  have sH : Same H (upd H q (.lst [])) := K0.Same.new _ fr
  have hne : q ≠ a := (ne_of_none ha fr).symm
  have ha2 := sH _ _ ha
  have ht2 := seqT sH ht
  obtain ⟨mA, J, _⟩ := ins_get I2.hok ha2
  obtain ⟨od, J, _⟩ := J.look
  unfold Builtin.List.listExtendWith
  refine wpAny_bind (J.type.here ?_)
  have h1 : Builtin.List.listSameRef (.ref q) (.ref a) = false := by simp [Builtin.List.listSameRef, hne]
  have h2 : (Value.ref C == Value.type "list") = false := rfl
  have h3 : (Value.ref C == Value.type "tuple") = false := rfl
  simp only [h1, h2, h3, Bool.or_false, Bool.false_eq_true, if_false]
  refine wpAny_bind (own_iterT0 (sb.mono (Nat.le_succ n)) Ti I2 ha2 hf ht2 fun it s3 I3 hn3 hz3 => ?_)
  have sI : Same (upd H q (.lst [])) (upd (upd H q (.lst [])) it (TitO t it)) := K0.Same.new _ hn3
  refine wpAny_bind (wpAny_holding (own_hintT sb Tl I3 (sI _ _ ha2) hf (seqT sI ht2) few fun s4 bb I4 => ?_))
  obtain ⟨I5, fp5, st5⟩ := tit_drop I4 hn3 hz3
  have qi : it ≠ q := fun e => by rw [e, upd_same] at hn3; cases hn3
  have fpH : FpOk X pins H it := FpOk.moved fp5 (by rw [upd_ne qi] at hn3; exact hn3)
  have done : ∀ s, Inv X pins σ (upd H q (.lst zs)) s → wants (fun r s₂ => r = .none ∧ EP X pins σ Q (.ref q) s₂) X.xe (.ok (.ret .none)) s := fun s' I' => ⟨rfl, .ref q, _, I', rfl, hq⟩
  have I5' : Inv X pins σ (upd H q (.lst (zs.take 0))) s4 := by rw [List.take_zero]; exact I5
  have hd1 : X.A.in1.in1.handled = none := I.ok.hd hc
  refine wpAny_ite_split (fun _ => ?_) (fun _ => wpAny_pure ⟨plainId_quiet PySem.F.plain_extend_loop _, tup_loop (A1 := X.A.in1) hd1 (by rw [sizeLine_eq]; omega) fr ht fpH qi done zs.length 0 s4 (Nat.zero_add _) I5' st5⟩)
  refine wpAny_bind (wpAny_rule ?_)
  refine wpAny_bind ?_
  show wpAny _ _ (updateSeq q (·.push .none) >>= fun _ => updateSeq q (·.pop)) _ _ _
  obtain ⟨z, its, k, r3, hl3, e3⟩ := I5.lstM upd_same
  cases r3
  refine wpAny_bind (wpAny_updateSeq e3 rfl ?_)
  have I6 := I5.lset (f := (·.push Value.none)) (its' := [Value.none]) (ys := [.non]) (t' := s4.toks) upd_same e3 (by simp) (.cons rfl .nil) (by rw [List.length_singleton, sizeLine_eq]; decide)
  obtain ⟨z4, its4, k4, r4, hl4, e4⟩ := I6.lstM upd_same
  obtain ⟨u4, rfl, ru4⟩ := r4.one
  refine wpAny_updateSeq e4 rfl ?_ (by show 1 ≤ sizeLine; rw [sizeLine_eq]; decide) (by show 0 ≤ sizeLine + 1; exact Nat.zero_le _)
  have I7 := I6.lset (f := (·.pop)) (its := [u4]) (its' := []) (ys := []) (t' := s4.toks) upd_same e4 (by rfl) .nil (Nat.zero_le _)
  rw [upd_upd, upd_upd] at I7
  have e0 : upd H q (.lst []) = upd H q (.lst (zs.take 0)) := by rw [List.take_zero]
  rw [e0] at I7
  refine wpAny_pure ⟨plainId_quiet PySem.F.plain_extend_loop _, tup_loop (A1 := X.A.in1) hd1 (by rw [sizeLine_eq]; omega) fr ht fpH qi done zs.length 0 _ (Nat.zero_add _) I7 ?_⟩
  obtain ⟨o, ho, hr⟩ := st5
  exact ⟨o, (Heap.get?_update_other _ _ (Ne.symm qi)).trans ((Heap.get?_update_other _ _ (Ne.symm qi)).trans ho), hr⟩
end
/-- for x in o -/
def iOwnT (K : PySem.W.Frag) (C : Addr) (fld : Str) (ta : TE) : TI := fun σ H R => ta σ H fun x H1 => ∃ a dx fs t zs, x = .ref a ∧ H1 a = some (.ins C dx fs) ∧ fs.lookup fld = some (.ref t) ∧ SqT K H1 t zs ∧ R (Itt K t) H1
section
variable {X : Cx} {tg e : Expr} {ta : TE} {n : Nat} {C g : Addr} {fld : Str}
theorem pi_ownT (T : ItrC X n C g fld) (hr : Room n X.A) (he : PE X e ta) : PI X tg e (iOwnT X.K C fld ta) := by
  refine ⟨fun pins s σ H R I h => ?_⟩
  refine thn (he.run pins s σ H _ I h) fun v s1 ⟨x, H1, I1, r1, a, dx, fs, t, zs, ex, ha, hf, ht, q⟩ => ?_
  subst ex
  cases r1
  refine own_iterT (A := X.A) ⟨hr, rfl⟩ T I1 ha hf ht fun it s' I' fp st => ?_
  refine ⟨it, [it], _, _, H1, rfl, I', turn_tuple t it, st, fun b hb => ?_, q⟩
  have e : b = it := by simpa using hb
  rw [e]
  exact fp
end
end K0

/-! ## W1 -/
set_option maxRecDepth 100000
set_option maxHeartbeats 2000000
/-! W1: a dict whose keys are tuples of any depth: d[k], d[k] = v, k in d, {}, len, truth, clear -/
namespace ND
open PySem PySem.Spec PyProof.Rows L2 NS
/-- an entry: the key, where its tuple stands, the value -/
abbrev En := NestedKey × Addr × V
abbrev Re := NestedKey × Addr × Value
abbrev KN : List En → List Re → Prop := Paired fun p q => p.1 = q.1 ∧ p.2.1 = q.2.1 ∧ RelV p.2.2 q.2.2
def valN : List En → NestedKey → Option V
  | [], _ => none
  | e :: M, k => if e.1 = k then some e.2.2 else valN M k
def setN (k : NestedKey) (v : V) (e : En) : En := if e.1 = k then (e.1, e.2.1, v) else e
def putN (M : List En) (k : NestedKey) (b : Addr) (v : V) : List En := if (valN M k).isSome then M.map (setN k v) else M ++ [(k, b, v)]
def rowN (e : En) : NS.Row := (e.2.1, e.1)
theorem KN.val {M : List En} {xs : List Re} (r : KN M xs) (k : NestedKey) : RelO (valN M k) ((atKey xs k).map (·.2)) := by
  induction r with
  | nil => exact True.intro
  | @cons p q ps qs h t ih =>
    obtain ⟨h1, _, h2⟩ := h
    by_cases c : p.1 = k
    · have z : atKey (q :: qs) k = some q.2 := by simp [atKey, List.find?_cons, h1.symm.trans c]
      rw [valN, if_pos c, z]
      exact h2
    · have c' : ¬ q.1 = k := fun y => c (h1.trans y)
      have z : atKey (q :: qs) k = atKey qs k := by simp [atKey, List.find?_cons, c']
      rw [valN, if_neg c, z]
      exact ih
theorem KN.over {M : List En} {xs : List Re} (r : KN M xs) (k : NestedKey) {v : V} {u : Value} (rv : RelV v u) : KN (M.map (setN k v)) (xs.map (putAt k u)) := by
  induction r with
  | nil => exact .nil
  | @cons p q ps qs h t ih =>
    obtain ⟨h1, h2, h3⟩ := h
    refine .cons ?_ ih
    unfold setN putAt
    by_cases c : p.1 = k
    · rw [if_pos c, if_pos (h1.symm.trans c)]
      exact ⟨h1, h2, rv⟩
    · rw [if_neg c, if_neg fun y => c (h1.trans y)]
      exact ⟨h1, h2, h3⟩
theorem KN.put {M : List En} {xs : List Re} (r : KN M xs) (k : NestedKey) (b : Addr) {v : V} {u : Value} (rv : RelV v u) : KN (putN M k b v) (storedH xs k b u) := by
  have z := (r.val k).isSome_eq
  rw [Option.isSome_map] at z
  unfold putN storedH
  rw [z]
  by_cases c : (atKey xs k).isSome = true
  · rw [if_pos c, if_pos c]
    exact r.over k rv
  · rw [if_neg c, if_neg c]
    exact Paired.snoc r ⟨rfl, rfl, rv⟩
theorem putN_len (M : List En) (k : NestedKey) (b : Addr) (v : V) : (putN M k b v).length ≤ M.length + 1 := by
  unfold putN
  split
  · rw [List.length_map]; exact Nat.le_succ _
  · rw [List.length_append]; exact Nat.le_refl _
theorem setN_key (k : NestedKey) (v : V) (e : En) : (setN k v e).1 = e.1 := by
  unfold setN
  split <;> rfl
theorem setN_at (k : NestedKey) (v : V) (e : En) : (setN k v e).2.1 = e.2.1 := by
  unfold setN
  split <;> rfl
theorem valN_some {M : List En} {k : NestedKey} : (valN M k).isSome = true ↔ k ∈ M.map (·.1) := by
  induction M with
  | nil => simp [valN]
  | cons e M ih =>
    rw [valN, List.map_cons, List.mem_cons]
    by_cases c : e.1 = k
    · rw [if_pos c]
      exact ⟨fun _ => .inl c.symm, fun _ => rfl⟩
    · rw [if_neg c, ih]
      exact ⟨.inr, fun z => z.resolve_left fun y => c y.symm⟩
theorem putN_rows {M : List En} {k : NestedKey} {b : Addr} {v : V} {e : En} (h : e ∈ putN M k b v) : rowN e = (b, k) ∨ ∃ e' ∈ M, rowN e = rowN e' := by
  unfold putN at h
  split at h
  · obtain ⟨e', he, rfl⟩ := List.mem_map.mp h
    exact .inr ⟨e', he, by unfold rowN; rw [setN_key, setN_at]⟩
  · rcases List.mem_append.mp h with h | h
    · exact .inr ⟨e, h, rfl⟩
    · rw [List.mem_singleton.mp h]
      exact .inl rfl
/-- such a dict stands at d in the heap -/
def DatN (P : Program) (w : World) (d : Addr) (M : List En) (h : Heap) : Prop := ∃ (xs : List Re) (o : Obj) (es : Array DictEntry) (ep : Nat), KN M xs ∧ h.get? d = some o ∧ o.ExactDict ∧ o.data = .dict es ep ∧
  es.toList = xs.map (entryOfKey (nestedKind P w)) ∧ (xs.map (·.1)).Nodup
def DicN (P : Program) (w : World) (d : Addr) (M : List En) : HO := .ext fun h => (d == sysModules) = false ∧ M.length ≤ sizeLine ∧ DatN P w d M h
theorem DatN.keep {P : Program} {w : World} {d : Addr} {M : List En} {h h' : Heap} (x : DatN P w d M h) (k : ∀ o, h.get? d = some o → h'.get? d = some o) : DatN P w d M h' := by
  obtain ⟨xs, o, es, ep, r, ho, rest⟩ := x
  exact ⟨xs, o, es, ep, r, k o ho, rest⟩
theorem dicN_ok {P : Program} {w : World} {H : Hp} {h : Heap} {d : Addr} {M : List En} (hd : (d == sysModules) = false) (hl : M.length ≤ sizeLine) (x : DatN P w d M h) : ObjOk P w H h d (DicN P w d M) := by
  refine ⟨⟨hd, hl, x⟩, ?_, fun h1 h2 ⟨z1, z2, z3⟩ g => ⟨z1, z2, z3.keep g⟩⟩
  obtain ⟨_, o, _, _, _, ho, _⟩ := x
  exact ⟨o, ho⟩
section
variable {X : Cx} {pins : List (Addr × Obj)} {σ : L2.St} {H : Hp} {s : Shared} {d b : Addr} {M : List En} {k : NestedKey} {v : V} {u : Value} {A : Around} {E : Value → Shared → Prop}
theorem dn_at (I : Inv X pins σ H s) (e : Rd H d (DicN X.prog X.w d M)) : (d == sysModules) = false ∧ M.length ≤ sizeLine ∧ DatN X.prog X.w d M s.heap := (e.ok I.hok).1
/-- its keys are keys -/
abbrev Keyed (K : PySem.W.Frag) (H : Hp) (M : List En) : Prop := ∀ e ∈ M, Kr K H (rowN e)
theorem dn_dict (I : Inv X pins σ H s) (e : Rd H d (DicN X.prog X.w d M)) (hk : Keyed X.K H M) : ∃ xs, KN M xs ∧ s.heap.DictOfH (nestedKind X.prog X.w) d xs := by
  obtain ⟨_, _, xs, o, es, ep, r, ho, hx, hd, he, hn⟩ := dn_at I e
  refine ⟨xs, r, o, es, ep, ho, hx, hd, he, fun x hx => ?_, hn⟩
  obtain ⟨j, hj⟩ := List.mem_iff_getElem?.mp hx
  have lt : j < M.length := by
    have := r.length
    have := (List.getElem?_eq_some_iff.mp hj).1
    omega
  obtain ⟨y, hy, h1, h2, _⟩ := paired_get r (List.getElem?_eq_getElem lt)
  rw [hj] at hy
  cases hy
  have z := at_of_kr I (hk _ (List.getElem_mem lt))
  rw [← h1, ← h2]
  exact z
theorem dn_get {Q : Value → Shared → Prop} (hu : A.units + 9 < cLine) (I : Inv X pins σ H s) (e : Rd H d (DicN X.prog X.w d M)) (hk : Keyed X.K H M) (kb : Kr X.K H (b, k)) (hv : valN M k = some v)
    (h : ∀ w' s', Inv X pins σ H s' → RelV v w' → Q w' s') : wpAny (model X.prog X.w) A (getItem (.ref d) (.ref b)) Q E s := by
  obtain ⟨xs, r, D⟩ := dn_dict I e hk
  have z := r.val k
  rw [hv] at z
  obtain ⟨w', hw, rw'⟩ := RelO.some_of z
  obtain ⟨p, hp, hp2⟩ := Option.map_eq_some_iff.mp hw
  refine wpAny_getItem_heap (knd := nestedKind X.prog X.w) (show A.in1.units + 8 < cLine by simp only [Around.in1_units]; omega) (at_of_kr I kb) D hp ?_
  rw [hp2]
  exact h w' _ (I.tok _) rw'
theorem dn_in {Q : Value → Shared → Prop} (hu : A.units + 9 < cLine) (I : Inv X pins σ H s) (e : Rd H d (DicN X.prog X.w d M)) (hk : Keyed X.K H M) (kb : Kr X.K H (b, k))
    (h : ∀ s', Inv X pins σ H s' → Q (.bool (valN M k).isSome) s') : wpAny (model X.prog X.w) A (compareOp .In (.ref b) (.ref d)) Q E s := by
  obtain ⟨xs, r, D⟩ := dn_dict I e hk
  have z := (r.val k).isSome_eq
  rw [Option.isSome_map] at z
  refine wpAny_in_heap (knd := nestedKind X.prog X.w) (show A.in1.units + 8 < cLine by simp only [Around.in1_units]; omega) (at_of_kr I kb) (dn_at I e).1 D ?_
  rw [← z]
  exact h _ (I.tok _)
theorem dn_set {Q : Unit → Shared → Prop} (hu : A.units + 9 < cLine) (I : Inv X pins σ H s) (e : H d = some (DicN X.prog X.w d M)) (hk : Keyed X.K H M) (kb : Kr X.K H (b, k)) (hl : M.length < sizeLine) (rv : RelV v u)
    (h : ∀ s', Inv X pins σ (upd H d (DicN X.prog X.w d (putN M k b v))) s' → Q () s') : wpAny (model X.prog X.w) A (setItem (.ref d) (.ref b) u) Q E s := by
  obtain ⟨xs, r, D⟩ := dn_dict I (.inl e) hk
  have z := dn_at I (.inl e)
  refine wpAny_setItem_heap (knd := nestedKind X.prog X.w) (hsz := by rw [← r.length]; exact z.2.1) (show A.in1.units + 8 < cLine by simp only [Around.in1_units]; omega) (at_of_kr I kb) D fun h' D' hs => h _ ?_
  obtain ⟨o, es, ep, ho, hx, hd, he, _, hn⟩ := D'
  exact d_write I (by rw [e]; exact True.intro) hs ⟨o, ho⟩ (dicN_ok z.1 (by have := putN_len M k b v; omega) ⟨_, o, es, ep, r.put k b rv, ho, hx, hd, he, hn⟩)
theorem dn_typeIs (I : Inv X pins σ H s) (e : Rd H d (DicN X.prog X.w d M)) : s.TypeIs (.ref d) "dict" := by
  obtain ⟨_, _, xs, o, es, ep, r, ho, hx, _⟩ := dn_at I e
  exact ⟨o, ho, hx.1⟩
theorem dn_noDict (I : Inv X pins σ H s) (e : Rd H d (DicN X.prog X.w d M)) : ∀ b, Value.ref d = .ref b → ∃ ob, s.heap.get? b = some ob ∧ ob.dict = none := fun b q => by
  cases q
  obtain ⟨_, _, xs, o, es, ep, r, ho, hx, _⟩ := dn_at I e
  exact ⟨o, ho, hx.2.1⟩
end
/-- d[k] -/
def tNGet (P : Program) (w : World) (K : PySem.W.Frag) (td ty : TE) : TE := fun σ H Q => td σ H fun x H1 => ty σ H1 fun y H2 => ∃ (d b : Addr) (M : List En) (k : NestedKey) (v : V), x = .ref d ∧ y = .ref b ∧ Rd H2 d (DicN P w d M) ∧ Keyed K H2 M ∧ Kr K H2 (b, k) ∧ valN M k = some v ∧ Q v H2
/-- k in d -/
def rNIn (P : Program) (w : World) (K : PySem.W.Frag) : R2 := fun y x H Q => ∃ (d b : Addr) (M : List En) (k : NestedKey), x = .ref d ∧ y = .ref b ∧ Rd H d (DicN P w d M) ∧ Keyed K H M ∧ Kr K H (b, k) ∧ Q (.bl (valN M k).isSome) H
/-- d[k] = v -/
def sNPut (P : Program) (w : World) (K : PySem.W.Frag) (td ty tv : TE) : TS := fun D σ H => tv σ H fun v H1 => td σ H1 fun x H2 => ty σ H2 fun y H3 => ∃ (d b : Addr) (M : List En) (k : NestedKey), x = .ref d ∧ y = .ref b ∧ H3 d = some (DicN P w d M) ∧ Keyed K H3 M ∧ Kr K H3 (b, k) ∧
  M.length < sizeLine ∧ D.nx σ (upd H3 d (DicN P w d (putN M k b v)))
/-- {} -/
def tNNew (P : Program) (w : World) : TE := fun _ H Q => ∀ p, H p = none → Q (.ref p) (upd H p (DicN P w p []))
section
variable {X : Cx} {o i e value : Expr} {pos pos' : Pos} {td ty tv : TE}
theorem pe_nget (hu : X.A.units + 9 < cLine) (ho : PE X o td) (hi : PE X i ty) (hs : NoSl i) : PE X (.Subscript o i pos) (tNGet X.prog X.w X.K td ty) := by
  refine ⟨fun pins s σ H Q I h => subD_of PySem.F.slot_dict_getitem.lookup hs (thn (ho.run pins s σ H _ I h) fun u s1 ⟨x, H1, I1, rx, q1⟩ => thn (hi.run pins s1 σ H1 _ I1 q1) fun iv s2 ⟨y, H2, I2, ry, d, b, M, k, v, ex, ey, hd, hk, kb, hv, q2⟩ => ?_)⟩
  subst ex ey
  obtain rfl : u = Value.ref d := rx
  obtain rfl : iv = Value.ref b := ry
  exact ⟨dn_typeIs I2 hd, dn_get hu I2 hd hk kb hv fun w' s3 I3 rw' => ⟨v, H2, I3, rw', q2⟩⟩
theorem op_nin (hu : X.A.units + 9 < cLine) : OpR X (compareOp .In) (rNIn X.prog X.w X.K) := by
  intro pins s σ H y x iv u Q I ry rx h
  obtain ⟨d, b, M, k, rfl, rfl, hd, hk, kb, q⟩ := h
  obtain rfl : u = Value.ref d := rx
  obtain rfl : iv = Value.ref b := ry
  exact dn_in hu I hd hk kb fun s3 I3 => ⟨.bl (valN M k).isSome, H, I3, rfl, q⟩
theorem ps_nput (hu : X.A.units + 9 < cLine) (ho : PE X o td) (hi : PE X i ty) (hv : PE X value tv) (hs : swapsWith value (some (.Subscript o i pos')) pos.line X.env = pure false) :
    PS X (.Assign [.Subscript o i pos'] value pos) (sNPut X.prog X.w X.K td ty tv) := by
  refine ⟨fun pins s σ H D I h => wpAny_Assign_Subscript (thn (hv.run pins s σ H _ I h) fun r s1 ⟨v, H1, I1, rv, q1⟩ => thn (ho.run pins s1 σ H1 _ I1 q1) fun u s2 ⟨x, H2, I2, rx, q2⟩ => thn (hi.run pins s2 σ H2 _ I2 q2) fun iv s3 ⟨y, H3, I3, ry, d, b, M, k, ex, ey, hd, hk, kb, hl, q3⟩ => ?_) hs⟩
  subst ex ey
  obtain rfl : u = Value.ref d := rx
  obtain rfl : iv = Value.ref b := ry
  exact dn_set hu I3 hd hk kb hl rv fun s4 I4 => ⟨σ, _, I4, q3⟩
theorem dn_empty {P : Program} {w : World} {H : Hp} (h : Heap) (hb : sysModules < h.objs.size) : ObjOk P w H (h.push { cls := .type "dict", data := .dict #[] }) h.objs.size (DicN P w h.objs.size []) :=
  dicN_ok (beq_eq_false_iff_ne.mpr (Ne.symm (Nat.ne_of_lt hb))) (Nat.zero_le _) ⟨[], _, #[], 0, .nil, Heap.get?_push_size _ rfl, ⟨rfl, rfl, rfl⟩, rfl, rfl, List.nodup_nil⟩
theorem pe_nnew : PE X (.Dict [] [] pos) (tNNew X.prog X.w) := ⟨fun pins s σ H Q I h =>
  wpAny_Dict_empty ⟨.ref s.heap.objs.size, _, I.laid (a := s.heap.objs.size) (o := DicN X.prog X.w s.heap.objs.size []) (t' := s.toks) (fun _ _ q => Heap.get?_push_of_some _ q) (Nat.le_refl _) (dn_empty s.heap I.big), rfl, h _ (I.hok.fresh (Nat.le_refl _))⟩⟩
/-- len(d) -/
def rNLen (P : Program) (w : World) (K : PySem.W.Frag) : List V → Hp → VK → Prop := fun xs H Q => ∃ (d : Addr) (M : List En), xs = [.ref d] ∧ Rd H d (DicN P w d M) ∧ Keyed K H M ∧ Q (.int ((M.length : Nat) : Int)) H
theorem cr_nlen : CallR X (.builtin "len") (rNLen X.prog X.w X.K) := by
  intro pins s σ H xs us Q I r h
  obtain ⟨d, M, rfl, hd, hk, q⟩ := h
  rw [Vals.ref1 r]
  obtain ⟨ys, rel, D⟩ := dn_dict I hd hk
  have z := dn_at I hd
  have hl := rel.length
  refine call_len_dictH (knd := nestedKind X.prog X.w) z.1 D (by rw [← hl]; have := z.2.1; rw [sizeLine_eq] at this; omega) ?_
  rw [← hl]
  exact ⟨.int ((M.length : Nat) : Int), H, I.tok _, ⟨_, rfl⟩, q⟩
end
end ND

/-! ## W2 -/
set_option maxRecDepth 100000
set_option maxHeartbeats 2000000
/-! W2: such a dict walked: keys, values, pairs -/
namespace ND
open PySem PySem.Spec PyProof.Rows L2 NS
theorem datN_raw {P : Program} {w : World} {d : Addr} {M : List En} {h : Heap} {o : Obj} (x : DatN P w d M h) (hg : h.get? d = some o) : o.ExactDict ∧ ∃ (es : Array DictEntry) (ep : Nat), o.data = .dict es ep ∧ es.size = M.length ∧
    ∀ (i : Nat) (e : En), M[i]? = some e → ∃ en : DictEntry, es[i]? = some en ∧ en.key = .ref e.2.1 ∧ RelV e.2.2 en.val := by
  obtain ⟨xs, o', es, ep, r, ho, hx, hd, he, hn⟩ := x
  rw [hg] at ho
  cases ho
  refine ⟨hx, es, ep, hd, ?_, fun i e z => ?_⟩
  · have := size_of_entries he
    have := r.length
    omega
  · obtain ⟨y, hy, h1, h2, h3⟩ := paired_get r z
    have q := entry_at he i
    rw [hy] at q
    exact ⟨_, q, by rw [h2] <;> rfl, h3⟩
section
variable {X : Cx} {pins : List (Addr × Obj)} {σ : L2.St} {H : Hp} {s : Shared} {d : Addr} {o : Obj} {M : List En}
theorem frzN (I : Inv X pins σ H s) (h : H d = some (.frz o (DicN X.prog X.w d M))) : (d == sysModules) = false ∧ s.heap.get? d = some o ∧ o.ExactDict ∧ ∃ (es : Array DictEntry) (ep : Nat), o.data = .dict es ep ∧ es.size = M.length ∧
    ∀ (i : Nat) (e : En), M[i]? = some e → ∃ en : DictEntry, es[i]? = some en ∧ en.key = .ref e.2.1 ∧ RelV e.2.2 en.val := by
  obtain ⟨hg, ⟨z1, z2, z3⟩, _⟩ := I.hok d _ h
  exact ⟨z1, hg, datN_raw z3 hg⟩
/-- the dict read, locked or not -/
theorem rdN (I : Inv X pins σ H s) (h : Rd H d (DicN X.prog X.w d M)) : (d == sysModules) = false ∧ M.length ≤ sizeLine ∧ ∃ (o : Obj) (es : Array DictEntry) (ep : Nat), s.heap.get? d = some o ∧ o.ExactDict ∧ o.data = .dict es ep ∧ es.size = M.length ∧
    ∀ (i : Nat) (e : En), M[i]? = some e → ∃ en : DictEntry, es[i]? = some en ∧ en.key = .ref e.2.1 ∧ RelV e.2.2 en.val := by
  obtain ⟨z1, z2, z3⟩ := dn_at I h
  obtain ⟨_, o, _, _, _, hg, _⟩ := id z3
  obtain ⟨hx, es, ep, r⟩ := datN_raw z3 hg
  exact ⟨z1, z2, o, es, ep, hg, hx, r⟩
end
/-- the keys of the locked dict -/
def ItNk (P : Program) (w : World) (d : Addr) (o : Obj) (M : List En) : It :=
  ⟨fun i H => H d = some (.frz o (DicN P w d M)) ∧ i < M.length, fun i H x H' => H' = H ∧ ∃ e, M[i]? = some e ∧ x = .ref e.2.1, fun i H => H d = some (.frz o (DicN P w d M)) ∧ M.length ≤ i⟩
def ItNv (P : Program) (w : World) (d : Addr) (o : Obj) (M : List En) : It :=
  ⟨fun i H => H d = some (.frz o (DicN P w d M)) ∧ i < M.length, fun i H x H' => H' = H ∧ ∃ e, M[i]? = some e ∧ x = e.2.2, fun i H => H d = some (.frz o (DicN P w d M)) ∧ M.length ≤ i⟩
def ItNp (P : Program) (w : World) (d : Addr) (o : Obj) (M : List En) : It :=
  ⟨fun i H => H d = some (.frz o (DicN P w d M)) ∧ i < M.length, fun i H x H' => ∃ T e, M[i]? = some e ∧ x = .ref T ∧ H T = none ∧ H' = upd H T (.tup [.ref e.2.1, e.2.2]), fun i H => H d = some (.frz o (DicN P w d M)) ∧ M.length ≤ i⟩
section
variable {P : Program} {w : World} {K : PySem.W.Frag} {tg : Expr} {d : Addr} {o : Obj} {es : Array DictEntry} {ep : Nat} {M : List En}
theorem walk_nk : Walk (ItNk P w d o M) M.length (fun H => H d = some (.frz o (DicN P w d M))) (fun i H x H' => H' = H ∧ ∃ e, M[i]? = some e ∧ x = .ref e.2.1) :=
  ⟨fun _ _ hi q => ⟨q, hi⟩, fun _ q => ⟨q, Nat.le_refl _⟩, fun _ _ _ _ _ _ y => y⟩
theorem walk_nv : Walk (ItNv P w d o M) M.length (fun H => H d = some (.frz o (DicN P w d M))) (fun i H x H' => H' = H ∧ ∃ e, M[i]? = some e ∧ x = e.2.2) :=
  ⟨fun _ _ hi q => ⟨q, hi⟩, fun _ q => ⟨q, Nat.le_refl _⟩, fun _ _ _ _ _ _ y => y⟩
theorem walk_np : Walk (ItNp P w d o M) M.length (fun H => H d = some (.frz o (DicN P w d M))) (fun i H x H' => ∃ T e, M[i]? = some e ∧ x = .ref T ∧ H T = none ∧ H' = upd H T (.tup [.ref e.2.1, e.2.2])) :=
  ⟨fun _ _ hi q => ⟨q, hi⟩, fun _ q => ⟨q, Nat.le_refl _⟩, fun _ _ _ _ _ _ y => y⟩
theorem turn_nk (it : Addr) (hod : o.data = .dict es ep) : Turn P w K tg (ItNk P w d o M) [it] it (fun i h => h.IsKeyIter it d i M.length ep) where
  mem := List.mem_singleton.mpr rfl
  obj := fun i h st b hb => by
    rw [List.mem_singleton.mp hb]
    obtain ⟨oi, z, _, dd⟩ := st
    exact ⟨oi, z, fun v y => by rw [dd] at y; cases y⟩
  keep := fun i h h' st k => st.at fun oi z => k it (List.mem_singleton.mpr rfl) oi z
  item := by
    intro X hP hw hK hc i pins s σ H E I hf st hg
    subst hP hw hK
    obtain ⟨f0, f1, f2, f3, f4, f5⟩ := hf it (List.mem_singleton.mpr rfl)
    obtain ⟨_, hgd, _, es', ep', hdt, hsz, ent⟩ := frzN I hg.1
    obtain ⟨rfl, rfl⟩ := dict_ep hod hdt
    obtain ⟨en, hen, hkey, _⟩ := ent i _ (List.getElem?_eq_getElem hg.2)
    refine next_key_item st hgd hdt hsz hen fun h' st' sb => ?_
    have J : Inv X pins σ H { s with heap := h' } := I.turned (t' := s.toks) (fun c u hc2 z => (sb.2 c hc2).trans z) f0 f1 f3 f4 f5
    obtain ⟨oi, z, cc, dd⟩ := id st'
    exact ⟨en.key, rfl, go_of (s := { s with heap := h' }) z cc dd (by decide) ⟨.ref (M[i]'hg.2).2.1, H, J, hkey, ⟨rfl, _, List.getElem?_eq_getElem hg.2, rfl⟩, st', fun c hc2 => (hf c hc2).1⟩⟩
  done := by
    intro X hP hw hK hc i pins s σ H E I hf st hg
    subst hP hw hK
    obtain ⟨f0, f1, f2, f3, f4, f5⟩ := hf it (List.mem_singleton.mpr rfl)
    obtain ⟨_, hgd, _, es', ep', hdt, hsz, ent⟩ := frzN I hg.1
    obtain ⟨rfl, rfl⟩ := dict_ep hod hdt
    exact next_key_end (I.ok.hd hc) st hgd hdt hsz hg.2 fun h' eb => ⟨rfl, I.turned (t' := s.toks) (fun c u hc2 z => eb c u hc2 z) f0 f1 f3 f4 f5⟩
  self := fun A i s Q E st h => wpAny_pyIter_keyiter st h
theorem turn_nv (it : Addr) (hod : o.data = .dict es ep) : Turn P w K tg (ItNv P w d o M) [it] it (fun i h => h.IsValIter it d i M.length ep) where
  mem := List.mem_singleton.mpr rfl
  obj := fun i h st b hb => by
    rw [List.mem_singleton.mp hb]
    obtain ⟨oi, z, _, dd⟩ := st
    exact ⟨oi, z, fun v y => by rw [dd] at y; cases y⟩
  keep := fun i h h' st k => st.at fun oi z => k it (List.mem_singleton.mpr rfl) oi z
  item := by
    intro X hP hw hK hc i pins s σ H E I hf st hg
    subst hP hw hK
    obtain ⟨f0, f1, f2, f3, f4, f5⟩ := hf it (List.mem_singleton.mpr rfl)
    obtain ⟨_, hgd, hx, es', ep', hdt, hsz, ent⟩ := frzN I hg.1
    obtain ⟨rfl, rfl⟩ := dict_ep hod hdt
    obtain ⟨en, hen, hkey, hval⟩ := ent i _ (List.getElem?_eq_getElem hg.2)
    have hlt : i < es'.size := by rw [hsz]; exact hg.2
    rw [← hsz] at st
    refine wpAny_pyNext_values_item_raw st ⟨o, hgd, hx, hdt⟩ hlt fun h' st' sb => ?_
    have ee : es'[i] = en := Option.some.inj ((Array.getElem?_eq_getElem hlt).symm.trans hen)
    have J : Inv X pins σ H { s with heap := h' } := I.turned (t' := s.toks) (fun c u hc2 z => (sb.2 c hc2).trans z) f0 f1 f3 f4 f5
    obtain ⟨oi, z, cc, dd⟩ := id st'
    refine ⟨es'[i].val, rfl, go_of (s := { s with heap := h' }) z cc dd (by decide) ⟨(M[i]'hg.2).2.2, H, J, by rw [ee]; exact hval, ⟨rfl, _, List.getElem?_eq_getElem hg.2, rfl⟩, ?_, fun c hc2 => (hf c hc2).1⟩⟩
    rw [← hsz]
    exact st'
  done := by
    intro X hP hw hK hc i pins s σ H E I hf st hg
    subst hP hw hK
    obtain ⟨f0, f1, f2, f3, f4, f5⟩ := hf it (List.mem_singleton.mpr rfl)
    obtain ⟨_, hgd, hx, es', ep', hdt, hsz, ent⟩ := frzN I hg.1
    obtain ⟨rfl, rfl⟩ := dict_ep hod hdt
    rw [← hsz] at st
    exact wpAny_pyNext_values_end_raw (I.ok.hd hc) st ⟨o, hgd, hx, hdt⟩ (by rw [hsz]; exact hg.2) fun h' eb => ⟨rfl, I.turned (t' := s.toks) (fun c u hc2 z => eb c u hc2 z) f0 f1 f3 f4 f5⟩
  self := fun A i s Q E st h => wpAny_pyIter_valiter st h
theorem turn_np {elts : List Expr} {kk : Nat} {tpos : Pos} (it : Addr) (hod : o.data = .dict es ep) : Turn P w K (.Tuple elts kk tpos) (ItNp P w d o M) [it] it (fun i h => ∃ ok ov, IsItemIter h it d i M.length ep ok ov) where
  mem := List.mem_singleton.mpr rfl
  obj := fun i h st b hb => by
    rw [List.mem_singleton.mp hb]
    obtain ⟨ok, ov, z⟩ := st
    exact ⟨_, z, fun v y => nomatch y⟩
  keep := fun i h h' st k => let ⟨ok, ov, z⟩ := st; ⟨ok, ov, k it (List.mem_singleton.mpr rfl) _ z⟩
  item := by
    intro X hP hw hK hc i pins s σ H E I hf st hg
    subst hP hw hK
    obtain ⟨_, hgd, hx, es', ep', hdt, hsz, ent⟩ := frzN I hg.1
    obtain ⟨rfl, rfl⟩ := dict_ep hod hdt
    obtain ⟨en, hen, hkey, hval⟩ := ent i _ (List.getElem?_eq_getElem hg.2)
    have hlt : i < es'.size := by rw [hsz]; exact hg.2
    have ee : es'[i] = en := Option.some.inj ((Array.getElem?_eq_getElem hlt).symm.trans hen)
    obtain ⟨ok, ov, he⟩ := st
    rw [← hsz] at he
    have itl : it < s.heap.objs.size := Heap.lt_size he
    refine wpAny_pyNext_items_item_raw he ⟨o, hgd, hx, hdt⟩ hlt fun h' ho hT hz hk => ?_
    refine ⟨_, rfl, wpAny_letOwnedTupleGo_items (s := { s with heap := h' }) ho fun h2 he' sb => ?_⟩
    have hT2 := (sb.2 _ (Nat.ne_of_gt itl)).trans hT
    have fresh : ObjOk X.prog X.w (upd H s.heap.objs.size (.tup [.ref (M[i]'hg.2).2.1, (M[i]'hg.2).2.2])) h2 s.heap.objs.size (.tup [.ref (M[i]'hg.2).2.1, (M[i]'hg.2).2.2]) :=
      ⟨by show 2 ≤ sizeLine; decide, [es'[i].key, es'[i].val], .cons (by rw [ee]; exact hkey) (.cons (by rw [ee]; exact hval) .nil), ⟨_, hT2, rfl, _, rfl⟩⟩
    have J : Inv X pins σ (upd H s.heap.objs.size (.tup [.ref (M[i]'hg.2).2.1, (M[i]'hg.2).2.2])) { s with heap := h2 } :=
      I.turnedNew (t' := s.toks) (ch := [it]) (fun c u hc2 z => (sb.2 c (by simpa using hc2)).trans (hk c u (by simpa using hc2) z)) hf (Nat.le_refl _) fresh
    refine ⟨.ref s.heap.objs.size, _, J, rfl, ⟨_, _, List.getElem?_eq_getElem hg.2, rfl, I.hok.fresh (Nat.le_refl _), rfl⟩, ⟨es'[i].key, es'[i].val, ?_⟩, fun c hc2 => ?_⟩
    · rw [← hsz]
      exact he'
    · rw [List.mem_singleton.mp hc2, upd_ne (Nat.ne_of_lt itl)]
      exact (hf it (List.mem_singleton.mpr rfl)).1
  done := by
    intro X hP hw hK hc i pins s σ H E I hf st hg
    subst hP hw hK
    obtain ⟨f0, f1, f2, f3, f4, f5⟩ := hf it (List.mem_singleton.mpr rfl)
    obtain ⟨_, hgd, hx, es', ep', hdt, hsz, ent⟩ := frzN I hg.1
    obtain ⟨rfl, rfl⟩ := dict_ep hod hdt
    obtain ⟨ok, ov, he⟩ := st
    rw [← hsz] at he
    exact wpAny_pyNext_items_end_raw (I.ok.hd hc) he ⟨o, hgd, hx, hdt⟩ (by rw [hsz]; exact hg.2) fun h' eb => ⟨rfl, I.turned (t' := s.toks) (fun c u hc2 z => eb c u hc2 z) f0 f1 f3 f4 f5⟩
  self := fun A i s Q E st h => let ⟨_, _, z⟩ := st; PySem.W.kcp_self z h
end
/-- for k in d; for v in d.values(); for k, v in d.items(): the dict is locked -/
def iNk (P : Program) (w : World) (td : TE) : TI := fun σ H R => td σ H fun x H1 => ∃ d o M, x = .ref d ∧ H1 d = some (.frz o (DicN P w d M)) ∧ R (ItNk P w d o M) H1
def iNv (P : Program) (w : World) (td : TE) : TI := fun σ H R => td σ H fun x H1 => ∃ d o M, x = .ref d ∧ H1 d = some (.frz o (DicN P w d M)) ∧ R (ItNv P w d o M) H1
def iNp (P : Program) (w : World) (td : TE) : TI := fun σ H R => td σ H fun x H1 => ∃ d o M, x = .ref d ∧ H1 d = some (.frz o (DicN P w d M)) ∧ R (ItNp P w d o M) H1
section
variable {X : Cx} {tg e : Expr} {td : TE} {apos cpos : Pos}
theorem pi_nk (he : PE X e td) : PI X tg e (iNk X.prog X.w td) := by
  refine ⟨fun pins s σ H R I h => thn (he.run pins s σ H _ I h) fun u s1 ⟨x, H1, I1, rx, d, o, M, ex, hd, q⟩ => ?_⟩
  subst ex
  obtain rfl : u = Value.ref d := rx
  obtain ⟨hs, hgd, hx, es, ep, hdt, hsz, ent⟩ := frzN I1 hd
  refine iter_keys hs hgd hx hdt (pi_one (tk := s1.toks) I1 _ (turn_nk _ hdt) ⟨_, Heap.get?_push_size _ rfl, rfl, ?_⟩ q)
  rw [hsz] <;> rfl
theorem pi_nv (he : PE X e td) (hbase : attributeBase e "values" X.env (eval e X.env) = eval e X.env := by rfl) (hline : (apos.endLine == cpos.line) = true := by rfl) : PI X tg (.Call (.Attribute e "values" apos) [] [] cpos) (iNv X.prog X.w td) := by
  refine ⟨fun pins s σ H R I h => wpAny_Call_method (T := "dict") (id := "dict.values") hbase rfl hline F.plainAttrs_dict F.slot_dict_values F.type_dict_values (thn (he.run pins s σ H _ I h) fun u s1 ⟨x, H1, I1, rx, d, o, M, ex, hd, q⟩ => ?_)⟩
  subst ex
  obtain rfl : u = Value.ref d := rx
  obtain ⟨hs, hgd, hx, es, ep, hdt, hsz, ent⟩ := frzN I1 hd
  have raw : s1.heap.DictRaw d es ep := ⟨o, hgd, hx, hdt⟩
  refine ⟨raw.typeIs, fun b q => by cases q; exact ⟨o, hgd, hx.2.1⟩, ?_⟩
  have J : Inv X pins σ H1 { s1 with heap := s1.heap.push { cls := .type "dict_values", data := .fields #[.ref d] } } := I1.kept (t' := s1.toks) fun b ob q => Heap.get?_push_of_some _ q
  have fin : wpAny (model X.prog X.w) X.A (pyIter (.ref s1.heap.objs.size)) (PIE X pins σ tg R) X.xe { s1 with heap := s1.heap.push { cls := .type "dict_values", data := .fields #[.ref d] } } := by
    refine wpAny_pyIter_values_raw (d := d) ⟨_, Heap.get?_push_size _ rfl, rfl, rfl⟩ (raw.push _) (pi_one (tk := s1.toks) J _ (turn_nv _ hdt) ⟨_, Heap.get?_push_size _ rfl, rfl, ?_⟩ q)
    rw [hsz] <;> rfl
  show wpAny _ _ (callWith cpos (.builtin "dict.values") [.ref d] [] []) _ X.xe s1
  exact method_meetsIn F.slot_dict_values F.entry_dict_values rfl (PySem.evalArgs_none ⟨rfl, raw.typeIs, F.args_dict_values_1 _, _, meets_dict_values_raw d hs, ⟨es, ep, raw⟩, fin⟩)
theorem pi_np {elts : List Expr} {kk : Nat} {tpos : Pos} (he : PE X e td) (hbase : attributeBase e "items" X.env (eval e X.env) = eval e X.env := by rfl) (hline : (apos.endLine == cpos.line) = true := by rfl) :
    PI X (.Tuple elts kk tpos) (.Call (.Attribute e "items" apos) [] [] cpos) (iNp X.prog X.w td) := by
  refine ⟨fun pins s σ H R I h => wpAny_Call_method (T := "dict") (id := "dict.items") hbase rfl hline F.plainAttrs_dict F.slot_dict_items F.type_dict_items (thn (he.run pins s σ H _ I h) fun u s1 ⟨x, H1, I1, rx, d, o, M, ex, hd, q⟩ => ?_)⟩
  subst ex
  obtain rfl : u = Value.ref d := rx
  obtain ⟨hs, hgd, hx, es, ep, hdt, hsz, ent⟩ := frzN I1 hd
  have raw : s1.heap.DictRaw d es ep := ⟨o, hgd, hx, hdt⟩
  refine ⟨raw.typeIs, fun b q => by cases q; exact ⟨o, hgd, hx.2.1⟩, ?_⟩
  have J : Inv X pins σ H1 { s1 with heap := s1.heap.push { cls := .type "dict_items", data := .fields #[.ref d] } } := I1.kept (t' := s1.toks) fun b ob q => Heap.get?_push_of_some _ q
  have fin : wpAny (model X.prog X.w) X.A (pyIter (.ref s1.heap.objs.size)) (PIE X pins σ (.Tuple elts kk tpos) R) X.xe { s1 with heap := s1.heap.push { cls := .type "dict_items", data := .fields #[.ref d] } } := by
    refine wpAny_pyIter_items_raw (d := d) ⟨_, Heap.get?_push_size _ rfl, rfl, rfl⟩ (raw.push _) (pi_one (tk := s1.toks) J _ (turn_np _ hdt) ⟨.none, .none, ?_⟩ q)
    rw [hsz]
    exact Heap.get?_push_size _ rfl
  show wpAny _ _ (callWith cpos (.builtin "dict.items") [.ref d] [] []) _ X.xe s1
  exact method_meetsIn F.slot_dict_items F.entry_dict_items rfl (PySem.evalArgs_none ⟨rfl, raw.typeIs, F.args_dict_items_1 _, _, meets_dict_items_raw d hs, ⟨es, ep, raw⟩, fin⟩)
end
end ND

/-! ## W3 -/
set_option maxRecDepth 100000
set_option maxHeartbeats 2000000
/-! W3: lists of tuples sorted where some of them may be empty -/
namespace ND
open PySem PySem.Spec PyProof.Rows L2 NS PySem.W
open PySem.SeqAt (EqAt)
section
variable {P : Program} {w : World} {A : Around} {E : Value → Shared → Prop} {s : Shared}
/-- the sort's own question of two tuples where all keys are of one type -/
theorem oneLt_key {x y : NestedKey} {u v : Value} {xs ys : List NestedKey} (ex : x = .tup xs) (ey : y = .tup ys) (ok : okK x y = true) (ru : Pure s.heap x u) (rv : Pure s.heap y v) (hu : A.units + 1 + min x.depth y.depth < cLine) {Q : Bool → Shared → Prop} (q : Q (ltK x y) s) :
    wpAny (model P w) A (oneLt' true u v) Q E s := by
  subst ex ey
  cases ru with
  | @tup l o vs n _ h1 h2 h3 h4 =>
    cases rv with
    | @tup l' o' vs' n' _ k1 k2 k3 k4 =>
      have n1 : vs.size = xs.length := by simpa using h4.len
      have n2 : vs'.size = ys.length := by simpa using k4.len
      have ho : okKs xs ys = true := by simpa only [okK] using ok
      have deep : A.in1.units + min (NestedKey.depthAll xs) (NestedKey.depthAll ys) < cLine := by
        simp only [NestedKey.depth, Around.in1_units] at hu ⊢
        omega
      rw [oneLt'_eq]
      simp only [if_true]
      refine wpAny_bind (wpAny_cRoomFor (by omega) ?_)
      obtain ⟨cls, dd, data, sl⟩ := o
      obtain ⟨cls2, dd2, data2, sl2⟩ := o'
      simp only at h2 h3 k2 k3
      subst h2 h3 k2 k3
      refine wpAny_bind (wpAny_callSpecialIfBound?_slot (T := "tuple") ⟨_, h1, rfl⟩ F.slot_tuple_lt
        (call_meets F.slot_tuple_lt ⟨_, h1, rfl⟩ F.entry_tuple_lt (F.args_tuple_lt_2 _ _) (Ob.tuple_ltAt l l' vs vs' n n' dd dd2 sl sl2 (keyEqAt xs ys) (fun j => ltK (xs.getD j .none) (ys.getD j .none)))
          ⟨h1, k1, fun j j1 j2 => ?_, fun j j1 j2 ne => ?_, ?_⟩))
      · have z := eqAt_keys xs ys A.in1 s vs.toList vs'.toList (PureAll.is _ _ h4) (PureAll.is _ _ k4) deep j (by simpa using j1) (by simpa using j2)
        simpa using z
      · have z := richs xs ys A.in1 s vs.toList vs'.toList ho h4 k4 deep j (by simpa using j1) (by simpa using j2) ne
        simpa using z
      · rw [n1, n2, lex_is xs ys _ _ _ 0 (fun j => by rw [Nat.zero_add]) (fun j => by rw [Nat.zero_add]) rfl]
        exact wpAny_truthy_bool (by simpa only [ltK] using q)
theorem keyLt_gen (x y : Value) : keyLt' general' x y = oneLt' false x y := rfl
/-- a tuple's first item, if it has one -/
def fst0 (h : Heap) (v : Value) : Option Value := match v with
  | .ref a => match h.get? a with
    | some o => match o.data with
      | .seq xs _ => xs[0]?
      | _ => none
    | none => none
  | _ => none
theorem firsts0 : ∀ (vs : List Value) {Q : List (Option Value) → Shared → Prop}, (∀ v ∈ vs, ∃ ks, Pure s.heap (.tup ks) v) → Q (vs.map (fst0 s.heap)) s → wpAny (model P w) A (vs.mapM firstOfTuple') Q E s
  | [], _, _, h => by rw [List.mapM_nil]; exact wpAny_pure h
  | v :: vs, Q, t, h => by
    obtain ⟨ks, p⟩ := t v List.mem_cons_self
    cases p with
    | @tup a o xs n _ h1 h2 h3 h4 =>
      rw [List.mapM_cons]
      refine wpAny_bind ?_
      rw [kas_first_eq]
      refine wpAny_bind (Looks.here (show Looks (model P w) s.heap (typeOf (.ref a)) o.cls from (Looks.ld h1).andThen .now) ?_)
      rw [h2, if_neg (by first | decide | simp)]
      refine wpAny_bind (listItems_at h1 h3 (wpAny_pure ?_))
      refine wpAny_bind (firsts0 vs (Q := fun bs s' => wpAny (model P w) A (pure (xs[0]? :: bs)) Q E s') (fun u hu => t u (List.mem_cons_of_mem _ hu)) (wpAny_pure ?_))
      have e : fst0 s.heap (.ref a) = xs[0]? := by
        unfold fst0
        simp only [h1, h3]
      rw [List.map_cons, e] at h
      exact h
/-- the kind of such a sort where one of them is empty -/
def kind0 (h : Heap) (vs : List Value) : SortKind := if ((vs.head?.map (fst0 h)).bind id).isSome then general' else oneType'
theorem kind0_ok {vs : List Value} (tt : ∀ v ∈ vs, ∃ ks, Pure s.heap (.tup ks) v) (one : ∃ v ∈ vs, fst0 s.heap v = none) {Q : SortKind → Shared → Prop} (q : Q (kind0 s.heap vs) s) : wpAny (model P w) A (keyKind' vs.toArray) Q E s := by
  rw [kat_kind_eq, List.mapM_toArray, map_eq_pure_bind]
  refine wpAny_bind (wpAny_bind (firsts0 vs tt (wpAny_pure ?_)))
  have hall : ¬ ((vs.map (fst0 s.heap)).toArray.all fun x => x.isSome) = true := by
    intro z
    simp only [List.all_toArray, List.all_map, List.all_eq_true] at z
    obtain ⟨v, hv, e⟩ := one
    have := z v hv
    simp [e] at this
  rw [if_neg hall]
  have h0 : (vs.map (fst0 s.heap)).toArray[0]? = vs.head?.map (fst0 s.heap) := by
    cases vs <;> simp
  rw [h0]
  unfold kind0 at q
  by_cases c : ((vs.head?.map (fst0 s.heap)).bind id).isSome = true
  · rw [if_pos c] at q ⊢
    exact wpAny_pure q
  · rw [if_neg c] at q ⊢
    obtain ⟨v0, hv0, _⟩ := one
    have ne : vs ≠ [] := fun z => by rw [z] at hv0; cases hv0
    obtain ⟨v1, vr, rfl⟩ : ∃ v1 vr, vs = v1 :: vr := List.exists_cons_of_ne_nil ne
    rw [oneTypeOnly'_eq, List.mapM_toArray, map_eq_pure_bind]
    refine wpAny_bind (wpAny_bind (wpAny_bind (kas_mapM (r := Value.type "tuple") _ (fun v hv Q' hq => ?_) (wpAny_pure ?_))))
    · obtain ⟨ks, p⟩ := tt v hv
      cases p with
      | @tup a o xs n _ h1 h2 h3 h4 =>
        have z : Looks (model P w) s.heap (typeOf (.ref a)) o.cls := (Looks.ld h1).andThen .now
        rw [h2] at z
        exact z.here hq
    · have e0 : (List.map (fun _ => Value.type "tuple") (v1 :: vr)).toArray[0]? = some (Value.type "tuple") := by simp
      rw [e0]
      have all2 : ((List.map (fun _ => Value.type "tuple") (v1 :: vr)).toArray.all fun x => x == Value.type "tuple") = true := by
        simp only [List.all_toArray, List.all_map, List.all_eq_true]
        intro _ _
        exact beq_self_eq_true _
      simp only [all2, if_true]
      exact wpAny_pure (wpAny_pure q)
/-- what the sort asks of a list of tuples, some of them perhaps empty -/
structure Sorts0 (h : Heap) (c : Nat) (kf : Value → NestedKey) (vs : List Value) : Prop where
  kd : c = 1 ∨ c = 2 ∨ c = 3
  each : ∀ v ∈ vs, Pure h (kf v) v ∧ (Leads c (kf v) ∨ kf v = .tup []) ∧ (kf v).depth ≤ 8
  two : ∀ u ∈ vs, ∀ v ∈ vs, okK (kf u) (kf v) = true
theorem Sorts0.grow {h h' : Heap} {c : Nat} {kf : Value → NestedKey} {vs : List Value} (x : Sorts0 h c kf vs) (g : ∀ a o, h.get? a = some o → o.cls = .type "tuple" → h'.get? a = some o) : Sorts0 h' c kf vs :=
  ⟨x.kd, fun v hv => ⟨Pure.grow g _ _ (x.each v hv).1, (x.each v hv).2⟩, x.two⟩
theorem leads_tup {c : Nat} {k : NestedKey} (h : Leads c k ∨ k = .tup []) : ∃ ks, k = .tup ks := by
  rcases h with ⟨x, xs, e, _⟩ | e
  · exact ⟨_, e⟩
  · exact ⟨_, e⟩
theorem sorts0_ok {c : Nat} {kf : Value → NestedKey} {vs : List Value} (x : Sorts0 s.heap c kf vs) (some_ : 0 < vs.length) (hu : A.units + 10 < cLine) {a : Addr} (ha : ∀ o, s.heap.get? a = some o → o.cls ≠ .type "tuple") : SrtO.SortableO P w A s a vs fun u v => ltK (kf u) (kf v) := by
  by_cases full : ∀ v ∈ vs, Leads c (kf v)
  · exact sorts_ok ⟨x.kd, fun v hv => ⟨(x.each v hv).1, full v hv, (x.each v hv).2.2⟩, x.two⟩ some_ (by omega) ha
  · have hole : ∃ v ∈ vs, kf v = .tup [] := by
      apply Classical.byContradiction
      intro z
      apply full
      intro v hv
      rcases (x.each v hv).2.1 with y | y
      · exact y
      · exact absurd ⟨v, hv, y⟩ z
    intro h' keep
    have y : Sorts0 h' c kf vs := x.grow fun b o e z => keep b o (fun q => ha o (q ▸ e) z) e
    have tt : ∀ v ∈ vs, ∃ ks, Pure h' (.tup ks) v := fun v hv => by
      obtain ⟨p, l, _⟩ := y.each v hv
      obtain ⟨ks, e⟩ := leads_tup l
      rw [e] at p
      exact ⟨ks, p⟩
    have one : ∃ v ∈ vs, fst0 h' v = none := by
      obtain ⟨v, hv, e⟩ := hole
      have p := (y.each v hv).1
      rw [e] at p
      refine ⟨v, hv, ?_⟩
      cases p with
      | @tup b o xs n _ h1 h2 h3 h4 =>
        unfold fst0
        simp only [h1, h3]
        cases h5 : xs.toList with
        | nil =>
          have : xs = #[] := by
            apply Array.ext'
            rw [h5]
          rw [this] <;> rfl
        | cons f r => rw [h5] at h4; cases h4
    refine ⟨kind0 h' vs, fun Q E q => kind0_ok (s := { s with heap := h' }) tt one q, fun p q hp hq => ?_⟩
    obtain ⟨p1, l1, d1⟩ := y.each p.1 hp
    obtain ⟨p2, l2, d2⟩ := y.each q.1 hq
    have ok := y.two _ hp _ hq
    obtain ⟨xs, e1⟩ := leads_tup l1
    obtain ⟨ys, e2⟩ := leads_tup l2
    show wpAny _ _ (keyLt' _ p.1 q.1) (fun r s' => s' = _ ∧ r = ltK (kf p.1) (kf q.1)) _ _
    unfold kind0
    split
    · rw [keyLt_gen]
      exact kat_one _ _ (rich _ _ A { s with heap := h' } _ _ ok p1 p2 (by omega) P w _ _ ⟨rfl, rfl⟩)
    · rw [keyLt'_oneType]
      exact oneLt_key (s := { s with heap := h' }) e1 e2 ok p1 p2 (by omega) ⟨rfl, rfl⟩
end
/-- such keys are sorted by their order -/
structure Lined0 (c : Nat) (N : List NS.Row) : Prop where
  kd : c = 1 ∨ c = 2 ∨ c = 3
  lead : ∀ m ∈ N, Leads c m.2 ∨ m.2 = .tup []
  two : ∀ m ∈ N, ∀ m' ∈ N, okK m.2 m'.2 = true
section
variable {X : Cx} {pins : List (Addr × Obj)} {σ : L2.St} {H : Hp} {s : Shared}
theorem sorts0_of (I : Inv X pins σ H s) {N : List NS.Row} {c : Nat} (hk : ∀ m ∈ N, Kr X.K H m) (L : Lined0 c N) : Sorts0 s.heap c (keyOf N) (N.map fun m => Value.ref m.1) ∧ ∀ m ∈ N, keyOf N (.ref m.1) = m.2 := by
  have one : ∀ m ∈ N, ∀ m' ∈ N, m.1 = m'.1 → m.2 = m'.2 := fun m hm m' hm' e => by
    have x := at_of_kr I (hk m hm)
    rw [e] at x
    exact x.one (at_of_kr I (hk m' hm'))
  have at_ : ∀ m ∈ N, keyOf N (.ref m.1) = m.2 := fun m hm => keyOf_at one hm
  refine ⟨⟨L.kd, fun v hv => ?_, fun u hu v hv => ?_⟩, at_⟩
  · obtain ⟨m, hm, rfl⟩ := List.mem_map.mp hv
    rw [at_ m hm]
    exact ⟨pure_of I _ _ _ (hk m hm).1 rfl, L.lead m hm, (hk m hm).2⟩
  · obtain ⟨m, hm, rfl⟩ := List.mem_map.mp hu
    obtain ⟨m', hm', rfl⟩ := List.mem_map.mp hv
    rw [at_ m hm, at_ m' hm']
    exact L.two m hm m' hm'
/-- xs.sort() -/
def rSort0 (K : PySem.W.Frag) : V → List V → Hp → VK → Prop := fun x xs H Q => ∃ (a : Addr) (N : List NS.Row) (c : Nat), x = .ref a ∧ xs = [] ∧ H a = some (.lst (N.map fun m => V.ref m.1)) ∧ (∀ m ∈ N, Kr K H m) ∧ Lined0 c N ∧
  ∀ M' : List NS.Row, M'.Perm N → M'.Pairwise (fun m m' => ltK m'.2 m.2 = false) → Q .non (upd H a (.lst (M'.map fun m => V.ref m.1)))
theorem sort0_body {A : Around} {E : Value → Shared → Prop} {a : Addr} {N : List NS.Row} {c : Nat} {Q : Value → Shared → Prop} (hu : A.units + 16 < cLine) (I : Inv X pins σ H s) (ha : H a = some (.lst (N.map fun m => V.ref m.1))) (hk : ∀ m ∈ N, Kr X.K H m) (L : Lined0 c N)
    (q : ∀ (M' : List NS.Row) (s' : Shared), M'.Perm N → M'.Pairwise (fun m m' => ltK m'.2 m.2 = false) → Inv X pins σ (upd H a (.lst (M'.map fun m => V.ref m.1))) s' → Q .none s') : wpAny (model X.prog X.w) A (call (.builtin "list.sort") [.ref a]) Q E s := by
  obtain ⟨hz, its, n, rv, hob⟩ := (show ObjOk X.prog X.w H s.heap a (.lst _) from I.hok a _ ha)
  have ei := refs_row rv
  subst ei
  obtain ⟨So, at_⟩ := sorts0_of I hk L
  have hz2 : (N.map fun m => Value.ref m.1).length ≤ sizeLine := by
    rw [List.length_map] at hz ⊢
    exact hz
  refine wpAny_call_entry slot_list_sort ⟨_, hob, rfl⟩ entry_list_sort (SrtO.list_sort_ord (swo_by (keyOf N)) hob hz2 (fun two => ?_) fun out hs hb => ⟨.none, rfl, ?_⟩) (args_list_sort _)
  · refine sorts0_ok So (by omega) (by simp only [Around.in1_units]; omega) fun o e z => ?_
    rw [hob] at e
    cases e
    exact absurd (Value.type.inj z) (by decide)
  · obtain ⟨M', eo, pM⟩ := perm_rows N out hb.perm
    obtain ⟨ep, he⟩ := PyProof.Rows.sortedHeap_at (vs := N.map fun m => Value.ref m.1) (out := out.toArray) hob
    refine q M' _ pM ?_ (I.write (e := a) (t' := s.toks) (by rw [ha]; trivial) (.inl rfl) (fun b u hb2 hu2 => ?_) ⟨_, he⟩ ⟨?_, out, ep, by rw [eo]; exact row_refs M', he⟩)
    · rw [eo] at hs
      refine List.Pairwise.imp_of_mem (fun {m m'} hm hm' hp => ?_) (List.pairwise_map.mp hs)
      dsimp only at hp
      rw [at_ m (pM.mem_iff.mp hm), at_ m' (pM.mem_iff.mp hm')] at hp
      exact hp
    · rw [PyProof.Rows.sortedHeap_old hb2 (Heap.lt_size hu2)]
      exact hu2
    · rw [List.length_map, pM.length_eq]
      rw [List.length_map] at hz
      exact hz
end
end ND

/-! ## Z1 -/
set_option maxRecDepth 100000
set_option maxHeartbeats 4000000
namespace K0
open PySem PySem.Spec PyProof.Rows L2
/-! ### list(zip(a list, a list)) -/
structure ZMade (xs ys : Array Value) (lo : Addr) (h : Heap) (as : List Addr) : Prop where
  rise : as.Pairwise (· < ·)
  above : ∀ a ∈ as, lo < a
  pairs : ∀ (j : Nat) (a : Addr), as[j]? = some a → ∃ x y, xs[j]? = some x ∧ ys[j]? = some y ∧ IsPair h a x y
theorem ZMade.there {xs ys : Array Value} {lo : Addr} {h : Heap} {as : List Addr} (g : ZMade xs ys lo h as) {a : Addr} (ha : a ∈ as) : a < h.objs.size := by
  obtain ⟨j, ej⟩ := List.mem_iff_getElem?.mp ha
  obtain ⟨_, _, _, _, e⟩ := g.pairs j a ej
  exact Heap.lt_size e
def ZSt (xs ys : Array Value) (z TI TO i1 i2 l1 l2 S : Addr) (i : Nat) (h : Heap) : Prop := IsPair h TI (.ref i1) (.ref i2) ∧ h.IsListIter i1 l1 i ∧ h.IsListIter i2 l2 i ∧ h.IsList l1 xs ∧ h.IsList l2 ys ∧
  ((IsZip h z TI TO .none ∧ ∃ a b, IsPair h TO a b) ∨ ∃ T f oT, IsZipHeld h z TI TO T f ∧ h.get? T = some oT ∧ T ≠ z ∧ T ≠ i1 ∧ T ≠ i2 ∧ T ≠ S)
structure ZLow (z TI TO i1 i2 l1 l2 S : Addr) : Prop where
  z : z < S
  ti : TI < S
  to : TO < S
  i1 : i1 < S
  i2 : i2 < S
  l1 : l1 < S
  l2 : l2 < S
section
variable {prog : Program} {w : World} {A : Around} {Er : Value → Shared → Prop} {s : Shared} {R : Result → Shared → Prop} {xs ys : Array Value} {z TI TO i1 i2 l1 l2 S : Addr}
theorem ZSt.keep {i : Nat} {h h' : Heap} (L : ZLow z TI TO i1 i2 l1 l2 S) (x : ZSt xs ys z TI TO i1 i2 l1 l2 S i h) (hk : ∀ b o, b ≠ S → h.get? b = some o → h'.get? b = some o) : ZSt xs ys z TI TO i1 i2 l1 l2 S i h' := by
  obtain ⟨g1, g2, g3, h4, h5, h6⟩ := x
  refine ⟨hk _ _ (Nat.ne_of_lt L.ti) g1, g2.at fun o e => hk _ o (Nat.ne_of_lt L.i1) e, g3.at fun o e => hk _ o (Nat.ne_of_lt L.i2) e, h4.at fun o e => hk _ o (Nat.ne_of_lt L.l1) e, h5.at fun o e => hk _ o (Nat.ne_of_lt L.l2) e, ?_⟩
  rcases h6 with ⟨zp, a, b, pTO⟩ | ⟨T, f, oT, zp, tz, r1, r2, r3, r4⟩
  · exact .inl ⟨hk _ _ (Nat.ne_of_lt L.z) zp, a, b, hk _ _ (Nat.ne_of_lt L.to) pTO⟩
  · exact .inr ⟨T, f, oT, hk _ _ (Nat.ne_of_lt L.z) zp, hk _ _ r4 tz, r1, r2, r3, r4⟩
theorem z_item (D : ZipApart z TI TO i1 i2 l1 l2) {i : Nat} {x y : Value} {Q : Option Value → Shared → Prop} (st : ZSt xs ys z TI TO i1 i2 l1 l2 S i s.heap) (sL : S < s.heap.objs.size) (ex : xs[i]? = some x) (ey : ys[i]? = some y)
    (kQ : ∀ h', ZSt xs ys z TI TO i1 i2 l1 l2 S (i + 1) h' → IsPair h' s.heap.objs.size x y → (∀ b o, b ≠ z → b ≠ TO → b ≠ i1 → b ≠ i2 → s.heap.get? b = some o → h'.get? b = some o) → Q (some (.ref s.heap.objs.size)) { s with heap := h' }) :
    wpAny (model prog w) A (pyNext (.ref z)) Q Er s := by
  obtain ⟨pTI, g1, g2, li1, li2, zp⟩ := st
  have ne0 : ∀ {c o}, s.heap.get? c = some o → s.heap.objs.size ≠ c := fun e => Nat.ne_of_gt (Heap.lt_size e)
  have n1 : s.heap.objs.size ≠ i1 := let ⟨_, e, _⟩ := g1; ne0 e
  have n2 : s.heap.objs.size ≠ i2 := let ⟨_, e, _⟩ := g2; ne0 e
  rcases zp with ⟨zp, a, b, pTO⟩ | ⟨T, f, oT, zp, tz, r1, r2, r3, r4⟩
  · refine wpAny_pyNext_zip_item D zp pTI pTO g1 g2 li1 li2 ex ey fun h' a1 a2 a3 a4 a5 a6 hk => ?_
    exact kQ h' ⟨hk _ _ D.TIz D.TITO D.TIi1 D.TIi2 pTI, a3, a4, li1.at fun o e => hk _ o D.l1z D.l1TO D.l1i1 D.l1i2 e, li2.at fun o e => hk _ o D.l2z D.l2TO D.l2i1 D.l2i2 e,
      .inr ⟨s.heap.objs.size, false, _, a1, a5, ne0 zp, n1, n2, Nat.ne_of_gt sL⟩⟩ a5 hk
  · refine wpAny_pyNext_zip_item_held D zp tz pTI g1 g2 li1 li2 ex ey fun h' a1 a3 a4 a5 a6 hk => ?_
    exact kQ h' ⟨hk _ _ D.TIz D.TIi1 D.TIi2 pTI, a3, a4, li1.at fun o e => hk _ o D.l1z D.l1i1 D.l1i2 e, li2.at fun o e => hk _ o D.l2z D.l2i1 D.l2i2 e,
      .inr ⟨T, true, oT, a1, hk _ _ r1 r2 r3 tz, r1, r2, r3, r4⟩⟩ a5 fun b o c1 _ c3 c4 e => hk b o c1 c3 c4 e
theorem z_done (hh : A.handled = none) (D : ZipApart z TI TO i1 i2 l1 l2) {i : Nat} {Q : Option Value → Shared → Prop} (st : ZSt xs ys z TI TO i1 i2 l1 l2 S i s.heap) (fin : xs[i]? = none ∨ ys[i]? = none)
    (kQ : ∀ h', (∀ b o, b ≠ z → b ≠ TO → b ≠ i1 → b ≠ i2 → s.heap.get? b = some o → h'.get? b = some o) → Q none { s with heap := h' }) : wpAny (model prog w) A (pyNext (.ref z)) Q Er s := by
  obtain ⟨pTI, g1, g2, li1, li2, zp⟩ := st
  rcases zp with ⟨zp, a, b, pTO⟩ | ⟨T, f, oT, zp, tz, r1, r2, r3, r4⟩
  · exact wpAny_pyNext_zip_end hh D zp pTI pTO g1 g2 li1 li2 fin fun h' hk => kQ h' hk
  · exact wpAny_pyNext_zip_end_held hh D zp tz pTI g1 g2 li1 li2 fin fun h' hk => kQ h' fun b o c1 _ c3 c4 e => hk b o c1 c3 c4 e
theorem z_loop (hh : A.handled = none) (D : ZipApart z TI TO i1 i2 l1 l2) (L : ZLow z TI TO i1 i2 l1 l2 S) {n : Nat} (en : n = min xs.size ys.size) (hn : n ≤ sizeLine) (res : Value) {u1 : Heap}
    (kR : ∀ h' toks' acc c as, (∀ b o, b ≠ S → b ≠ z → b ≠ TO → b ≠ i1 → b ≠ i2 → u1.get? b = some o → h'.get? b = some o) → h'.get? S = some { cls := .type "list", dict := none, data := .seq acc c, slots := #[] } → as.length = n → ZMade xs ys S h' as →
      acc.toList = as.map Value.ref → R (.ok (.ret res)) { s with heap := h', toks := toks' }) :
    ∀ (k i : Nat) (h : Heap) (toks' c : Nat) (acc : Array Value) (as : List Addr), n - i = k → i ≤ n → ZSt xs ys z TI TO i1 i2 l1 l2 S i h → (∀ b o, b ≠ S → b ≠ z → b ≠ TO → b ≠ i1 → b ≠ i2 → u1.get? b = some o → h.get? b = some o) →
      h.get? S = some { cls := .type "list", dict := none, data := .seq acc c, slots := #[] } → acc.toList = as.map Value.ref → as.length = i → ZMade xs ys S h as →
      codeAny (model prog w) A (.builtin "list.extend.loop" ⟨[.ref S, .ref z, res], []⟩) R { s with heap := h, toks := toks' } := by
  have nz := Nat.ne_of_gt L.z
  have nTO := Nat.ne_of_gt L.to
  have n1 := Nat.ne_of_gt L.i1
  have n2 := Nat.ne_of_gt L.i2
  have far : ∀ {a : Addr}, S < a → a ≠ z ∧ a ≠ TO ∧ a ≠ i1 ∧ a ≠ i2 := fun h => ⟨Nat.ne_of_gt (Nat.lt_trans L.z h), Nat.ne_of_gt (Nat.lt_trans L.to h), Nat.ne_of_gt (Nat.lt_trans L.i1 h), Nat.ne_of_gt (Nat.lt_trans L.i2 h)⟩
  intro k
  induction k with
  | zero =>
    intro i h toks' c acc as hk hi hst hkeep sL ac ln gm
    have ein : i = n := by omega
    refine codeAny_builtin PySem.F.entry_extend_loop ?_; rw [Around.under_plainId PySem.F.plain_extend_loop _]
    show wpAny _ A.in1 (pyNext (.ref z) >>= _) _ _ _
    have fin : xs[i]? = none ∨ ys[i]? = none := by
      obtain h | h := Nat.le_total xs.size ys.size
      · exact .inl (Array.getElem?_eq_none (by rw [ein, en, Nat.min_eq_left h]; exact Nat.le_refl _))
      · exact .inr (Array.getElem?_eq_none (by rw [ein, en, Nat.min_eq_right h]; exact Nat.le_refl _))
    refine wpAny_bind (z_done (s := { s with heap := h, toks := toks' }) (A := A.in1) hh D hst fin fun h' he => ?_)
    refine wpAny_pure (kR h' toks' acc c as (fun b o c0 c1 c2 c3 c4 e => he b o c1 c2 c3 c4 (hkeep b o c0 c1 c2 c3 c4 e)) (he S _ nz nTO n1 n2 sL) (by omega) ⟨gm.rise, gm.above, fun j a ej => ?_⟩ ac)
    obtain ⟨x, y, e1, e2, e3⟩ := gm.pairs j a ej
    obtain ⟨f1, f2, f3, f4⟩ := far (gm.above a (List.mem_of_getElem? ej))
    exact ⟨x, y, e1, e2, he a _ f1 f2 f3 f4 e3⟩
  | succ k rec =>
    intro i h toks' c acc as hk hi hst hkeep sL ac ln gm
    have lti : i < n := by omega
    have ltx : i < xs.size := by have := Nat.min_le_left xs.size ys.size; omega
    have lty : i < ys.size := by have := Nat.min_le_right xs.size ys.size; omega
    have ex := Array.getElem?_eq_getElem ltx; have ey := Array.getElem?_eq_getElem lty
    have hsz : acc.size = i := by rw [← Array.length_toList, ac, List.length_map, ln]
    have hSl : S < h.objs.size := Heap.lt_size sL
    refine codeAny_builtin PySem.F.entry_extend_loop ?_; rw [Around.under_plainId PySem.F.plain_extend_loop _]
    show wpAny _ A.in1 (pyNext (.ref z) >>= _) _ _ _
    refine wpAny_bind (z_item (s := { s with heap := h, toks := toks' }) (S := S) D hst hSl ex ey fun h' hst' ht hkp => ?_)
    dsimp only at ht hkp ⊢
    have hS' := hkp S _ nz nTO n1 n2 sL
    have up : ∀ b o, b ≠ S → h'.get? b = some o → (h'.update S (Obj.mapSeq (·.push (Value.ref h.objs.size)))).get? b = some o := fun b o lb e => (Heap.get?_update_other _ _ (Ne.symm lb)).trans e
    refine wpAny_bind ?_
    refine wpAny_updateSeq hS' rfl (wpAny_pure ⟨plainId_quiet PySem.F.plain_extend_loop _, rec (i + 1) _ toks' _ (acc.push (Value.ref h.objs.size)) (as ++ [h.objs.size]) (by omega) lti (hst'.keep L up)
      (fun b o c0 c1 c2 c3 c4 e => up b o c0 (hkp b o c1 c2 c3 c4 (hkeep b o c0 c1 c2 c3 c4 e))) (Heap.get?_update_self _ hS' rfl) (by rw [Array.toList_push, ac, List.map_append]; rfl) (by rw [List.length_append, ln]; rfl) ⟨?_, ?_, ?_⟩⟩) (by rw [hsz]; omega) (by show (acc.push (Value.ref h.objs.size)).size ≤ sizeLine + 1; rw [Array.size_push, hsz]; omega)
    · refine List.pairwise_append.mpr ⟨gm.rise, List.pairwise_singleton _ _, fun a ha b lb => ?_⟩
      rw [List.mem_singleton.mp lb]
      exact gm.there ha
    · intro a ha
      obtain ha | ha := List.mem_append.mp ha
      · exact gm.above a ha
      · rw [List.mem_singleton.mp ha]; exact hSl
    · intro j b ej
      obtain g1 | g1 | g1 := Nat.lt_trichotomy j as.length
      · rw [List.getElem?_append_left g1] at ej
        obtain ⟨x, y, e1, e2, e3⟩ := gm.pairs j b ej
        have lb := gm.above b (List.mem_of_getElem? ej)
        obtain ⟨f1, f2, f3, f4⟩ := far lb
        exact ⟨x, y, e1, e2, up b _ (Nat.ne_of_gt lb) (hkp b _ f1 f2 f3 f4 e3)⟩
      · subst g1
        have lb : h.objs.size = b := by simpa using ej
        subst lb
        exact ⟨_, _, by rw [ln]; exact ex, by rw [ln]; exact ey, up _ _ (Nat.ne_of_gt hSl) ht⟩
      · have non : (as ++ [h.objs.size])[j]? = none := List.getElem?_eq_none (by rw [List.length_append, List.length_singleton]; omega)
        rw [non] at ej; cases ej
theorem zip_no_len : typeLookup (.type "zip") "__len__" = pure none := by rw [typeLookup_type, builtinLookup_eq_fast]; kernel_rfl
theorem zip_no_hint : typeLookup (.type "zip") "__length_hint__" = pure none := by rw [typeLookup_type, builtinLookup_eq_fast]; kernel_rfl
theorem z_extend (hh : A.handled = none) (D : ZipApart z TI TO i1 i2 l1 l2) (L : ZLow z TI TO i1 i2 l1 l2 S) {n : Nat} (en : n = min xs.size ys.size) (hn : n ≤ sizeLine) (st : ZSt xs ys z TI TO i1 i2 l1 l2 S 0 s.heap) (zp : IsZip s.heap z TI TO .none) (res : Value) (c₀ : Nat) (sL : s.heap.get? S = some { cls := .type "list", data := .seq #[] c₀ })
    (kR : ∀ h' toks' acc c as, (∀ b o, b ≠ S → b ≠ z → b ≠ TO → b ≠ i1 → b ≠ i2 → s.heap.get? b = some o → h'.get? b = some o) → h'.get? S = some { cls := .type "list", dict := none, data := .seq acc c, slots := #[] } → as.length = n → ZMade xs ys S h' as →
      acc.toList = as.map Value.ref → R (.ok (.ret res)) { s with heap := h', toks := toks' }) :
    wpAny (model prog w) A.in1 (Builtin.List.listExtendWith (.ref S) (.ref z) res)
      (fun out s' => match out with | .done f => R (.ok f) s' | .again c' => c'.quiet = true ∧ codeAny (model prog w) A c' R s') (fun e s' => R (.error e) s') s := by
  have tz : ∀ toks', Shared.TypeIs { s with toks := toks' } (.ref z) "zip" := fun _ => ⟨_, zp, rfl⟩
  have tzz : s.TypeIs (.ref z) "zip" := ⟨_, zp, rfl⟩
  unfold Builtin.List.listExtendWith; refine wpAny_bind (wpAny_typeOf tzz ?_)
  have g1 : Builtin.List.listSameRef (.ref S) (.ref z) = false := by simp [Builtin.List.listSameRef, Nat.ne_of_gt L.z]
  have g2 : (Value.type "zip" == Value.type "list") = false := by decide
  have g3 : (Value.type "zip" == Value.type "tuple") = false := by decide
  simp only [g1, g2, g3, Bool.or_false, Bool.false_eq_true, if_false]
  refine wpAny_bind (wpAny_pyIter_zip zp ?_); refine wpAny_bind (wpAny_holding ?_); unfold Builtin.List.listLengthHint; refine wpAny_bind (wpAny_specialOf tzz zip_no_len ?_)
  show wpAny _ A.in1 (specialOf (Value.ref z) (Str.ofString "__length_hint__") >>= _) _ _ _
  refine wpAny_bind (wpAny_specialOf tzz zip_no_hint ?_); refine wpAny_pure ?_
  show wpAny _ A.in1 (rule "list.extend.makes-room" >>= fun _unused => Builtin.List.listTouch (.ref S) >>= fun _ =>
    again (.builtin "list.extend.loop" ⟨[.ref S, .ref z, res], []⟩)) _ _ _
  refine wpAny_bind (wpAny_rule ?_); refine wpAny_bind ?_
  show wpAny _ A.in1 (updateSeq S (fun a => a.push .none) >>= fun _ => updateSeq S (fun a => a.pop)) _ _ _
  refine wpAny_bind (wpAny_updateSeq sL rfl ?_)
  have sL2 := Heap.get?_update_self (Obj.mapSeq (·.push Value.none)) sL rfl
  refine wpAny_updateSeq (hz := by seq_fits) sL2 rfl ?_
  have sL3 := Heap.get?_update_self (Obj.mapSeq (·.pop)) sL2 rfl
  have offS : ∀ b o, b ≠ S → s.heap.get? b = some o → ((s.heap.update S (Obj.mapSeq (·.push Value.none))).update S (Obj.mapSeq (·.pop))).get? b = some o :=
    fun b o lb e => (Heap.get?_update_other _ _ (Ne.symm lb)).trans ((Heap.get?_update_other _ _ (Ne.symm lb)).trans e)
  refine wpAny_pure ⟨plainId_quiet PySem.F.plain_extend_loop _, ?_⟩
  exact z_loop (s := s) (u1 := s.heap) hh D L en hn res kR n 0 _ s.toks _ #[] [] (Nat.sub_zero _) (Nat.zero_le _) (st.keep L offS) (fun b o c0 _ _ _ _ e => offS b o c0 e) sL3 rfl rfl ⟨List.Pairwise.nil, (fun _ ha => nomatch ha), (fun j a ej => by simp at ej)⟩
theorem z_call {Q : Value → Shared → Prop} (hh : A.handled = none) (D : ZipApart z TI TO i1 i2 l1 l2) (L : ZLow z TI TO i1 i2 l1 l2 s.heap.objs.size) {n : Nat} (en : n = min xs.size ys.size) (hn : n ≤ sizeLine)
    (zp : IsZip s.heap z TI TO .none) (pTI : IsPair s.heap TI (.ref i1) (.ref i2)) {a b : Value} (pTO : IsPair s.heap TO a b) (g1 : s.heap.IsListIter i1 l1 0) (g2 : s.heap.IsListIter i2 l2 0) (li1 : s.heap.IsList l1 xs) (li2 : s.heap.IsList l2 ys)
    (kQ : ∀ h' toks' acc c as, (∀ b o, b ≠ z → b ≠ TO → b ≠ i1 → b ≠ i2 → s.heap.get? b = some o → h'.get? b = some o) → h'.get? s.heap.objs.size = some { cls := .type "list", dict := none, data := .seq acc c, slots := #[] } → as.length = n → ZMade xs ys s.heap.objs.size h' as →
      acc.toList = as.map Value.ref → Q (.ref s.heap.objs.size) { s with heap := h', toks := toks' }) :
    wpAny (model prog w) A (call (.type "list") [.ref z]) Q Er s := by
  refine callType_codes (Q₁ := fun obj t1 => obj = .ref s.heap.objs.size ∧ t1 = { s with heap := s.heap.push { cls := .type "list", data := .seq #[] } }) PySem.F.called_list (PySem.F.typeCall_list_1 _) PySem.F.entry_list_init
    (code_list_new _ ⟨rfl, rfl⟩) fun obj t1 u1 => ?_
  obtain ⟨rfl, rfl⟩ := u1
  have sL : (s.heap.push { cls := .type "list", data := .seq #[] }).get? s.heap.objs.size = some { cls := .type "list", data := .seq #[] } := Heap.get?_push_size _ rfl
  refine ⟨⟨_, sL, rfl⟩, PySem.F.args_list_init_2 _ _, ?_⟩
  show wpAny _ _ (do let old ← Builtin.List.listItems (.ref s.heap.objs.size); Builtin.List.listUpdate (.ref s.heap.objs.size) (fun _ => #[]); letGo old.toList.reverse; Builtin.List.listExtendWith (.ref s.heap.objs.size) (.ref z) .none) _ _ _
  refine wpAny_bind ?_; unfold Builtin.List.listItems; refine wpAny_bind (wpAny_seqItems sL rfl (wpAny_pure ?_))
  show wpAny _ _ (updateSeq s.heap.objs.size (fun _ => #[]) >>= fun _ => letGo (#[] : Array Value).toList.reverse >>= fun _ => Builtin.List.listExtendWith (.ref s.heap.objs.size) (.ref z) .none) _ _ _
  refine wpAny_bind (wpAny_updateSeq sL rfl ?_)
  have sL2 := Heap.get?_update_self (Obj.mapSeq (fun _ => (#[] : Array Value))) sL rfl
  have offS : ∀ b o, b ≠ s.heap.objs.size → s.heap.get? b = some o → ((s.heap.push { cls := .type "list", data := .seq #[] }).update s.heap.objs.size (Obj.mapSeq (fun _ => (#[] : Array Value)))).get? b = some o :=
    fun b o lb e => (Heap.get?_update_other _ _ (Ne.symm lb)).trans (Heap.get?_push_of_some _ e)
  refine wpAny_bind (wpAny_letGo ?_); have st : ZSt xs ys z TI TO i1 i2 l1 l2 s.heap.objs.size 0 s.heap := ⟨pTI, g1, g2, li1, li2, .inl ⟨zp, a, b, pTO⟩⟩
  refine z_extend (A := A.in1) hh D L en hn (st.keep L offS) (offS _ _ (Nat.ne_of_lt L.z) zp) .none _ sL2 (fun h' toks' acc c as hk hS' hl gm ac => ?_)
  exact ⟨rfl, kQ h' toks' acc c as (fun b o c1 c2 c3 c4 e => hk b o (Nat.ne_of_lt (Heap.lt_size e)) c1 c2 c3 c4 (offS b o (Nat.ne_of_lt (Heap.lt_size e)) e)) hS' hl gm ac⟩
end
end K0

/-! ## Z2 -/
set_option maxRecDepth 100000
set_option maxHeartbeats 4000000
namespace K0
open PySem PySem.Spec PyProof.Rows L2
def putP : Hp → List Addr → List (V × V) → Hp
  | H, a :: as, p :: ps => putP (upd H a (.tup [p.1, p.2])) as ps
  | H, _, _ => H
theorem putP_off {b : Addr} : ∀ (as : List Addr) (ps : List (V × V)) (H : Hp), b ∉ as → putP H as ps b = H b
  | [], _, _, _ => rfl
  | _ :: _, [], _, _ => rfl
  | a :: as, p :: ps, H, h => by
    show putP (upd H a (.tup [p.1, p.2])) as ps b = H b
    rw [putP_off as ps _ (fun z => h (List.mem_cons_of_mem _ z)), upd_ne (fun z => h (by rw [z]; exact List.mem_cons_self))]
theorem putP_at : ∀ (as : List Addr) (ps : List (V × V)) (H : Hp), as.length = ps.length → as.Nodup → Paired (fun (t : Addr) (p : V × V) => putP H as ps t = some (.tup [p.1, p.2])) as ps
  | [], [], _, _, _ => .nil
  | [], _ :: _, _, hl, _ => by cases hl
  | _ :: _, [], _, hl, _ => by cases hl
  | a :: as, p :: ps, H, h, hn => by
    have hno := List.nodup_cons.mp hn
    have ih := putP_at as ps (upd H a (.tup [p.1, p.2])) (Nat.succ.inj h) hno.2
    refine .cons ?_ ih
    show putP (upd H a (.tup [p.1, p.2])) as ps a = some (.tup [p.1, p.2])
    rw [putP_off as ps _ hno.1, upd_same]
def rZipL (K : PySem.W.Frag) : List V → Hp → VK → Prop := fun vs H Q => ∃ (a b : Addr) (xs ys : List V), vs = [.ref a, .ref b] ∧ SqL K H a xs ∧ SqL K H b ys ∧
  ∀ (H' : Hp) (p : Addr) (ts : List Addr), (∀ b o, H b = some o → H' b = some o) → H p = none → H' p = some (.lst (ts.map V.ref)) → Paired (fun (t : Addr) (q : V × V) => H' t = some (.tup [q.1, q.2])) ts (xs.zip ys) → Q (.ref p) H'
section
variable {X : Cx} {e e2 : Expr} {ta : L2.TA} {p p2 pos pos2 : Pos}
theorem zip_laid {pins : List (Addr × Obj)} {σ : L2.St} {H : Hp} {s : Shared} {h' : Heap} {tk : Nat} {xs ys : List V} {us vs : List Value} {acc : Array Value} {c : Nat} {as : List Addr} {S : Addr} (I : Inv X pins σ H s) (hz : (xs.zip ys).length ≤ sizeLine) (lo : s.heap.objs.size ≤ S) (rx : Vals xs us) (ry : Vals ys vs)
    (kh : ∀ b o, s.heap.get? b = some o → h'.get? b = some o) (hS : h'.get? S = some { cls := .type "list", dict := none, data := .seq acc c, slots := #[] }) (hl : as.length = (xs.zip ys).length) (gm : ZMade us.toArray vs.toArray S h' as) (ac : acc.toList = as.map Value.ref) :
    ∃ H' : Hp, (∀ b o, H b = some o → H' b = some o) ∧ H S = none ∧ H' S = some (.lst (as.map V.ref)) ∧ Paired (fun (t : Addr) (q : V × V) => H' t = some (.tup [q.1, q.2])) as (xs.zip ys) ∧ Inv X pins σ H' { s with heap := h', toks := tk } := by
  have hSn : S ∉ as := fun z => Nat.lt_irrefl _ (gm.above _ z)
  have nod : as.Nodup := List.Pairwise.imp (fun {a b} (h : a < b) => Nat.ne_of_lt h) gm.rise
  have anew : ∀ t ∈ as, H t = none := fun t ht => I.hok.fresh (Nat.le_trans lo (Nat.le_of_lt (gm.above t ht)))
  have newQ : H S = none := I.hok.fresh lo
  have atP := putP_at as (xs.zip ys) (upd H S (.lst (as.map V.ref))) hl nod
  have off : ∀ b, b ∉ as → b ≠ S → putP (upd H S (.lst (as.map V.ref))) as (xs.zip ys) b = H b := fun b h1 h2 => by rw [putP_off as _ _ h1, upd_ne h2]
  have under : ∀ b o, s.heap.get? b = some o → b ∉ as ∧ b ≠ S := fun b o e => ⟨fun z => absurd (Nat.lt_of_lt_of_le (Heap.lt_size e) lo) (Nat.not_lt.mpr (Nat.le_of_lt (gm.above b z))), Nat.ne_of_lt (Nat.lt_of_lt_of_le (Heap.lt_size e) lo)⟩
  have kpH : ∀ b u, H b = some u → (putP (upd H S (.lst (as.map V.ref))) as (xs.zip ys)) b = some u := fun b u e => by
    rw [off b (fun z => by rw [anew b z] at e; cases e) (fun z => by rw [z, newQ] at e; cases e)]
    exact e
  have eS : putP (upd H S (.lst (as.map V.ref))) as (xs.zip ys) S = some (.lst (as.map V.ref)) := by rw [putP_off as _ _ hSn, upd_same]
  refine ⟨putP (upd H S (.lst (as.map V.ref))) as (xs.zip ys), kpH, newQ, eS, atP, ?_⟩
  refine I.call' (ch := []) rfl ⟨fun b o q _ _ _ => kh b o q, fun b o q _ _ _ => ⟨o.slots, kh b o q⟩, fun b o q n _ => ?_, fun b o q _ => ⟨o, kh b o q⟩, fun b xs q => kpH b _ q, fun b o u q => kpH b _ q, fun b ps q => ⟨#[], by rw [kpH b _ q]; simp⟩⟩ (fun b u q => ?_) I.bare fun b z => by simp at z
  · obtain ⟨z1, z2⟩ := under b o q
    rw [off b z1 z2]
    exact n
  · by_cases hb : b ∈ as
    · obtain ⟨j, pk, e1, e2, e3⟩ := LiI.paired_ix atP hb
      rw [e3] at q
      cases q
      obtain ⟨x, y, f1, f2, f3⟩ := gm.pairs j b e1
      obtain ⟨g1, g2⟩ := List.getElem?_zip_eq_some.mp e2
      obtain ⟨x', k1, k2⟩ := rx.get g1
      obtain ⟨y', k3, k4⟩ := ry.get g2
      have evs : x = x' := Option.some.inj (by rw [← f1, ← k1]; simp)
      have ey : y = y' := Option.some.inj (by rw [← f2, ← k3]; simp)
      exact ⟨by show 2 ≤ sizeLine; decide, [x, y], .cons (by rw [evs]; exact k2) (.cons (by rw [ey]; exact k4) .nil), ⟨_, f3, rfl, _, rfl⟩⟩
    · by_cases hb2 : b = S
      · rw [hb2] at q ⊢
        rw [eS] at q
        cases q
        refine ⟨by rw [List.length_map]; omega, acc.toList, c, by rw [ac]; exact LiI.vals_refs as, ?_⟩
        rw [Array.toArray_toList]
        exact hS
      · rw [off b hb hb2] at q
        exact (I.hok b u q).stay (fun d v _ y => kh d v y) (fun d y => kpH d _ y) fun d xs y => kpH d _ y
/-- list(zip(e, e2)) -/
theorem pe_listZip (hcalm : X.calm = true) (ha : PA X [e, e2] ta) (hg : L2.Gl X "list") (hm : X.mg "list" = none) (hv : bootBuiltins "list" = some (.type "list")) (hgz : L2.Gl X "zip") (hmz : X.mg "zip" = none)
    (hs : starEach [.Call (.Name "zip" p2) [e, e2] [] pos2] X.env = (false, eval (.Call (.Name "zip" p2) [e, e2] [] pos2) X.env) :: starEach [] X.env := by rfl)
    (hs2 : starEach [e, e2] X.env = (false, eval e X.env) :: starEach [e2] X.env := by rfl) (hpl : (backTo pos2 (starEach [e2] X.env)).any (·.1) = false := by rfl) :
    PE X (.Call (.Name "list" p) [.Call (.Name "zip" p2) [e, e2] [] pos2] [] pos) (fun σ H Q => ta σ H fun vs H1 => rZipL X.K vs H1 Q) := by
  refine ⟨fun pins s σ H Q I q0 => wpAny_Call_Name_kw (ld_blt I hg hm hv (PyProof.Rows.callWith_type1 ?_ hs rfl))⟩
  rw [hs]
  show wpAny _ _ (spliced ((false, eval (.Call (.Name "zip" p2) [e, e2] [] pos2) X.env) :: backTo pos (starEach [] X.env))) _ _ s
  refine Calls.spliced_cons ?_
  refine wpAny_Call_Name_kw (ld_blt I hgz hmz PyProof.Rows.boot_zip (PyProof.Rows.callWith_type1 (thn (ha.run pos2 pins s σ H _ I q0) fun us s1 ⟨vs, H1, I1, r1, q1⟩ => ?_) hs2 hpl))
  obtain ⟨a, b, xs, ys, evs, sx, sy, q⟩ := q1
  subst evs
  cases r1 with
  | cons r rr =>
    cases rr with
    | cons r' rr =>
      cases rr
      cases r
      cases r'
      obtain ⟨its, rv, p1, z1⟩ := I1.list sx
      obtain ⟨its2, rv2, p2', z2⟩ := I1.list sy
      have alt : a < s1.heap.objs.size := p1.lt
      have blt' : b < s1.heap.objs.size := p2'.lt
      refine call_zip_2 p1.isList p2'.isList fun h' hz hTI hTO h1 h2 hsz kh => ?_
      refine Calls.spliced_nil ?_
      have len : (xs.zip ys).length = min its.toArray.size its2.toArray.size := by
        have l1 := rv.length
        have l2 := rv2.length
        simp only [List.length_zip, List.size_toArray]
        rw [l1, l2]
      have hnz : (xs.zip ys).length ≤ sizeLine := by
        rw [List.length_zip]
        omega
      refine z_call (s := { s1 with heap := h' }) (I1.ok.hd hcalm) (PySem.W.ktu_apart s1.heap.objs.size a b alt blt') (n := (xs.zip ys).length) ?_ len hnz hz hTI hTO h1 h2 (p1.isList.at fun o e => kh _ o e) (p2'.isList.at fun o e => kh _ o e) fun h'' tk acc c as hk2 hS' hl gm ac => ?_
      · have up : ∀ k, k < 5 → s1.heap.objs.size + k < h'.objs.size := fun k kh => by rw [hsz]; exact Nat.add_lt_add_left kh _
        exact ⟨up 4 (by decide), up 2 (by decide), up 3 (by decide), up 0 (by decide), up 1 (by decide), Nat.lt_trans alt (up 0 (by decide)), Nat.lt_trans blt' (up 0 (by decide))⟩
      · have fr : ∀ {c o}, s1.heap.get? c = some o → c ≠ s1.heap.objs.size + 4 ∧ c ≠ s1.heap.objs.size + 3 ∧ c ≠ s1.heap.objs.size ∧ c ≠ s1.heap.objs.size + 1 := fun e => by
          have z := Heap.lt_size e
          exact ⟨Nat.ne_of_lt (Nat.lt_of_lt_of_le z (Nat.le_add_right _ _)), Nat.ne_of_lt (Nat.lt_of_lt_of_le z (Nat.le_add_right _ _)), Nat.ne_of_lt z, Nat.ne_of_lt (Nat.lt_of_lt_of_le z (Nat.le_add_right _ _))⟩
        have hk' : ∀ b o, s1.heap.get? b = some o → h''.get? b = some o := fun b o e => by
          obtain ⟨f1, f2, f3, f4⟩ := fr e
          exact hk2 b o f1 f2 f3 f4 (kh b o e)
        obtain ⟨H', k1, k2, k3, k4, J⟩ := zip_laid (tk := tk) I1 hnz (by show s1.heap.objs.size ≤ h'.objs.size; rw [hsz]; exact Nat.le_add_right _ _) rv rv2 hk' hS' hl gm ac
        exact ⟨.ref _, H', J, rfl, q H' _ as k1 k2 k3 k4⟩
end
end K0

/-! ## W4 -/
set_option maxRecDepth 100000
set_option maxHeartbeats 2000000
/-! W4: such a dict as a list: keys, values, pairs, sorted; its truth; clear -/
namespace ND
open PySem PySem.Spec PyProof.Rows L2 NS PySem.W
section
variable {P : Program} {w : World} {A : Around} {E : Value → Shared → Prop} {s : Shared}
theorem truth_raw {d : Addr} {xs : List Re} {Q : Bool → Shared → Prop} (hd : (d == sysModules) = false) (D : s.heap.DictOfH (nestedKind P w) d xs) (few : xs.length ≤ sizeLine) (q : Q (!xs.isEmpty) { s with toks := s.toks + 1 + 1 }) :
    wpAny (model P w) A (truthy (.ref d)) Q E s := by
  have fit : (xs.length : Int) < 2 ^ 63 := by rw [sizeLine_eq] at few; omega
  have same : ((xs.length : Int) != 0) = !xs.isEmpty := by
    cases xs with
    | nil => rfl
    | cons x r => simp; omega
  have key : wpAny (model P w) A (runValue (.builtin "len" ⟨[.ref d], []⟩)) (fun r s' => r = .int xs.length (s.toks + 1) ∧ Q (!xs.isEmpty) s') E s := by
    refine wpAny_runValue (codeAny_builtin entry_len ?_)
    rw [Around.under_plainId plain_len _]
    exact wpAny_mono (wpAny_len_body_dictH (Q := fun r s' => r = .int xs.length (s.toks + 1) ∧ Q (!xs.isEmpty) s') hd D fit ⟨rfl, q⟩) (fun out s' y => by obtain ⟨r, rfl, z⟩ := y; exact z) fun _ _ z => z
  unfold truthy
  first
    | refine wpAny_bind (wpAny_callSpecial?_none (name := Str.ofString "__bool__") D.typeIs noBool_dict ?_)
    | refine wpAny_bind (wpAny_pure (wpAny_bind (wpAny_callSpecial?_none (name := Str.ofString "__bool__") D.typeIs noBool_dict ?_)))
  first
    | refine wpAny_bind (wpAny_specialOf (name := Str.ofString "__len__") D.typeIs F.slot_dict_len.lookup ?_)
    | refine wpAny_bind (wpAny_pure (wpAny_bind (wpAny_specialOf (name := Str.ofString "__len__") D.typeIs F.slot_dict_len.lookup ?_)))
  first
    | exact wpAny_bind (wpAny_mono key (fun r s' y => by obtain ⟨rfl, z⟩ := y; exact wpAny_pure (same ▸ z)) fun _ _ z => z)
    | exact wpAny_bind (wpAny_pure (wpAny_bind (wpAny_mono key (fun r s' y => by obtain ⟨rfl, z⟩ := y; exact wpAny_pure (same ▸ z)) fun _ _ z => z)))
/-- list(d.items()) -/
theorem list_items {r d : Addr} {es : Array DictEntry} {ep : Nat} {Q : Value → Shared → Prop} (hh : A.handled = none) (hv : s.heap.IsItemsView r d) (hm : DT.Raw s.heap d es ep) (few : es.size ≤ sizeLine)
    (q : ∀ h' tk acc c as, (∀ b o, s.heap.get? b = some o → h'.get? b = some o) → h'.get? s.heap.objs.size = some { cls := .type "list", dict := none, data := .seq acc c, slots := #[] } → as.length = es.size → DT.Made es s.heap.objs.size h' as → acc.toList = as.map Value.ref →
      Q (.ref s.heap.objs.size) { s with heap := h', toks := tk }) : wpAny (model P w) A (call (.type "list") [.ref r]) Q E s := by
  have lr : r < s.heap.objs.size := let ⟨_, ho, _⟩ := hv; Heap.lt_size ho
  have ld : d < s.heap.objs.size := hm.lt
  refine callType_codes (Q₁ := fun ob t => ob = .ref s.heap.objs.size ∧ t = { s with heap := s.heap.push { cls := .type "list", data := .seq #[] } }) PySem.F.called_list (PySem.F.typeCall_list_1 _) PySem.F.entry_list_init (code_list_new _ ⟨rfl, rfl⟩) fun ob t et => ?_
  obtain ⟨rfl, rfl⟩ := et
  have sL : (s.heap.push { cls := .type "list", data := .seq #[] }).get? s.heap.objs.size = some { cls := .type "list", data := .seq #[] } := Heap.get?_push_size _ rfl
  refine ⟨⟨_, sL, rfl⟩, PySem.F.args_list_init_2 _ _, ?_⟩
  show wpAny _ _ (do let old ← Builtin.List.listItems (.ref s.heap.objs.size); Builtin.List.listUpdate (.ref s.heap.objs.size) (fun _ => #[]); letGo old.toList.reverse; Builtin.List.listExtendWith (.ref s.heap.objs.size) (.ref r) .none) _ _ _
  refine wpAny_bind ?_; unfold Builtin.List.listItems; refine wpAny_bind (wpAny_seqItems sL rfl (wpAny_pure ?_))
  show wpAny _ _ (updateSeq s.heap.objs.size (fun _ => #[]) >>= fun _ => letGo (#[] : Array Value).toList.reverse >>= fun _ => Builtin.List.listExtendWith (.ref s.heap.objs.size) (.ref r) .none) _ _ _
  refine wpAny_bind (wpAny_updateSeq sL rfl ?_); have sL2 := Heap.get?_update_self (Obj.mapSeq (fun _ => (#[] : Array Value))) sL rfl
  have offS : ∀ b o, s.heap.get? b = some o → ((s.heap.push { cls := .type "list", data := .seq #[] }).update s.heap.objs.size (Obj.mapSeq (fun _ => (#[] : Array Value)))).get? b = some o :=
    fun b o z => (Heap.get?_update_other _ _ (Ne.symm (Nat.ne_of_lt (Heap.lt_size z)))).trans (Heap.get?_push_of_some _ z)
  refine wpAny_bind (wpAny_letGo ?_); have hz : ((s.heap.push { cls := .type "list", data := .seq #[] }).update s.heap.objs.size (Obj.mapSeq (fun _ => (#[] : Array Value)))).objs.size = s.heap.objs.size + 1 := by simp [Heap.update, Heap.push]
  refine DT.extI (s := { s with heap := (s.heap.push { cls := .type "list", data := .seq #[] }).update s.heap.objs.size (Obj.mapSeq (fun _ => (#[] : Array Value))) }) (es := es) (ep := ep) (A := A.in1) hh (let ⟨o, ho, x⟩ := hv; ⟨o, offS _ _ ho, x⟩) (hm.at' fun o z => offS _ _ z) s.heap.objs.size (Nat.ne_of_gt lr) (Nat.ne_of_lt ld) .none _ sL2 (fun h' tk acc c as hk sL' hl gm ac => ?_) few
  exact ⟨rfl, q h' tk acc c as (fun b o z => hk b o (Nat.ne_of_lt (Heap.lt_size z)) (offS b o z)) sL' hl (gm.low (by show s.heap.objs.size ≤ _; rw [hz]; exact Nat.le_succ _)) ac⟩
end
section
variable {X : Cx} {pins : List (Addr × Obj)} {σ : L2.St} {H : Hp} {s : Shared}
/-- a list of new pairs is laid -/
theorem laidP {h' : Heap} {tk : Nat} {ps : List (V × V)} {acc : Array Value} {c : Nat} {as : List Addr} {S : Addr} (I : Inv X pins σ H s) (few : ps.length ≤ sizeLine) (lo : s.heap.objs.size ≤ S) (fr : ∀ a ∈ as, s.heap.objs.size ≤ a) (nod : as.Nodup) (hSn : S ∉ as)
    (kh : ∀ b o, s.heap.get? b = some o → h'.get? b = some o) (hS : h'.get? S = some { cls := .type "list", dict := none, data := .seq acc c, slots := #[] }) (hl : as.length = ps.length)
    (each : ∀ (j : Nat) (a : Addr), as[j]? = some a → ∃ (p : V × V) (x y : Value), ps[j]? = some p ∧ RelV p.1 x ∧ RelV p.2 y ∧ h'.get? a = some { cls := .type "tuple", data := .seq #[x, y] }) (ac : acc.toList = as.map Value.ref) :
    ∃ H' : Hp, (∀ b o, H b = some o → H' b = some o) ∧ H S = none ∧ (∀ t ∈ as, H t = none) ∧ H' S = some (.lst (as.map V.ref)) ∧ Paired (fun (t : Addr) (q : V × V) => H' t = some (.tup [q.1, q.2])) as ps ∧ Inv X pins σ H' { s with heap := h', toks := tk } := by
  have fresh : ∀ t ∈ as, H t = none := fun t ht => I.hok.fresh (fr t ht)
  have freshS : H S = none := I.hok.fresh lo
  have atP := K0.putP_at as ps (upd H S (.lst (as.map V.ref))) hl nod
  have off : ∀ b, b ∉ as → b ≠ S → K0.putP (upd H S (.lst (as.map V.ref))) as ps b = H b := fun b g1 g2 => by rw [K0.putP_off as _ _ g1, upd_ne g2]
  have old : ∀ b o, s.heap.get? b = some o → b ∉ as ∧ b ≠ S := fun b o z => ⟨fun y => absurd (Heap.lt_size z) (Nat.not_lt.mpr (fr b y)), Nat.ne_of_lt (Nat.lt_of_lt_of_le (Heap.lt_size z) lo)⟩
  have kpH : ∀ b u, H b = some u → (K0.putP (upd H S (.lst (as.map V.ref))) as ps) b = some u := fun b u z => by
    rw [off b (fun y => by rw [fresh b y] at z; cases z) (fun y => by rw [y, freshS] at z; cases z)]
    exact z
  have eS : K0.putP (upd H S (.lst (as.map V.ref))) as ps S = some (.lst (as.map V.ref)) := by rw [K0.putP_off as _ _ hSn, upd_same]
  refine ⟨_, kpH, freshS, fresh, eS, atP, ?_⟩
  refine I.call' (ch := []) rfl ⟨fun b o z _ _ _ => kh b o z, fun b o z _ _ _ => ⟨o.slots, kh b o z⟩, fun b o z n _ => ?_, fun b o z _ => ⟨o, kh b o z⟩, fun b xs z => kpH b _ z, fun b o u z => kpH b _ z, fun b qs z => ⟨#[], by rw [kpH b _ z]; simp⟩⟩ (fun b u z => ?_) I.bare fun b z => by simp at z
  · obtain ⟨z1, z2⟩ := old b o z
    rw [off b z1 z2]
    exact n
  · by_cases hb : b ∈ as
    · obtain ⟨j, pk, e1, e2, e3⟩ := LiI.paired_ix atP hb
      rw [e3] at z
      cases z
      obtain ⟨p, x, y, f1, f2, f3, f4⟩ := each j b e1
      rw [e2] at f1
      cases f1
      exact ⟨by show 2 ≤ sizeLine; decide, [x, y], .cons f2 (.cons f3 .nil), ⟨_, f4, rfl, _, rfl⟩⟩
    · by_cases hb2 : b = S
      · rw [hb2] at z ⊢
        rw [eS] at z
        cases z
        refine ⟨by rw [List.length_map, hl]; exact few, acc.toList, c, by rw [ac]; exact LiI.vals_refs as, ?_⟩
        rw [Array.toArray_toList]
        exact hS
      · rw [off b hb hb2] at z
        exact (I.hok b u z).stay (fun d v _ y => kh d v y) (fun d y => kpH d _ y) fun d qs y => kpH d _ y
end
/-- the pair of an entry -/
def pairN (e : En) : V × V := (.ref e.2.1, e.2.2)
theorem made_pairs {es : Array DictEntry} {M : List En} {lo : Addr} {h : Heap} {as : List Addr} (gm : DT.Made es lo h as) (hz : es.size = M.length) (ent : ∀ (i : Nat) (e : En), M[i]? = some e → ∃ en : DictEntry, es[i]? = some en ∧ en.key = .ref e.2.1 ∧ RelV e.2.2 en.val) (j : Nat) (a : Addr) (ha : as[j]? = some a) :
    ∃ (p : V × V) (x y : Value), (M.map pairN)[j]? = some p ∧ RelV p.1 x ∧ RelV p.2 y ∧ h.get? a = some { cls := .type "tuple", data := .seq #[x, y] } := by
  obtain ⟨en, e1, e2⟩ := gm.pairs j a ha
  have lt : j < M.length := by
    rw [← hz]
    exact (Array.getElem?_eq_some_iff.mp e1).1
  obtain ⟨en', f1, f2, f3⟩ := ent j _ (List.getElem?_eq_getElem lt)
  rw [e1] at f1
  cases f1
  exact ⟨pairN (M[j]'lt), en.key, en.val, by rw [List.getElem?_map, List.getElem?_eq_getElem lt] <;> rfl, f2, f3, e2⟩
def valsO (p d : Addr) : HO := .ext fun h => h.IsValuesView p d
section
variable {X : Cx}
theorem tru_n : TruR X (fun x H Q => ∃ d M, x = .ref d ∧ Rd H d (DicN X.prog X.w d M) ∧ Keyed X.K H M ∧ Q (!M.isEmpty) H) := by
  intro pins s σ H x v Q I rx h
  obtain ⟨d, M, rfl, hd, hk, q⟩ := h
  cases rx
  obtain ⟨xs, r, D⟩ := dn_dict I hd hk
  obtain ⟨z1, z2, _⟩ := dn_at I hd
  refine truth_raw z1 D (by rw [← r.length]; exact z2) ?_
  have e : M.isEmpty = xs.isEmpty := by cases r <;> rfl
  rw [← e]
  exact ⟨H, I.tok _, q⟩
/-- d.items(), d.values() as values -/
def rNItems (P : Program) (w : World) : V → List V → Hp → VK → Prop := fun x xs H Q => ∃ d M, x = .ref d ∧ xs = [] ∧ Rd H d (DicN P w d M) ∧ ∀ p, H p = none → Q (.ref p) (upd H p (DX.itemsO p d))
def rNValues (P : Program) (w : World) : V → List V → Hp → VK → Prop := fun x xs H Q => ∃ d M, x = .ref d ∧ xs = [] ∧ Rd H d (DicN P w d M) ∧ ∀ p, H p = none → Q (.ref p) (upd H p (valsO p d))
def rNClear (P : Program) (w : World) : V → List V → Hp → VK → Prop := fun x xs H Q => ∃ d M, x = .ref d ∧ xs = [] ∧ H d = some (DicN P w d M) ∧ Q .non (upd H d (DicN P w d []))
theorem mt_nitems : MtR X "dict.items" (rNItems X.prog X.w) := by
  intro pins s σ H x xs v us Q I rx rxs h
  obtain ⟨d, M, rfl, rfl, hd, q⟩ := h
  cases rx
  cases rxs
  obtain ⟨z1, z2, o, es, ep, ho, hx, hdat, _⟩ := rdN I hd
  refine DT.callItems (es := es) (ep := ep) z1 ⟨o, ho, hx, hdat⟩ ?_
  exact ⟨.ref s.heap.objs.size, _, I.laid (t' := s.toks) (fun b u z => Heap.get?_push_of_some _ z) (Nat.le_refl _) (DX.itemsO_ok (Heap.get?_push_size _ rfl)), rfl, q _ (I.hok.fresh (Nat.le_refl _))⟩
theorem mt_nvalues : MtR X "dict.values" (rNValues X.prog X.w) := by
  intro pins s σ H x xs v us Q I rx rxs h
  obtain ⟨d, M, rfl, rfl, hd, q⟩ := h
  cases rx
  cases rxs
  obtain ⟨z1, z2, o, es, ep, ho, hx, hdat, _⟩ := rdN I hd
  have raw : s.heap.DictRaw d es ep := ⟨o, ho, hx, hdat⟩
  refine call_meetsIn F.slot_dict_values raw.typeIs F.entry_dict_values (F.args_dict_values_1 _) (meets_dict_values_raw d z1) ⟨⟨es, ep, raw⟩, ?_⟩
  exact ⟨.ref s.heap.objs.size, _, I.laid (t' := s.toks) (o := valsO s.heap.objs.size d) (fun b u z => Heap.get?_push_of_some _ z) (Nat.le_refl _) ⟨⟨_, Heap.get?_push_size _ rfl, rfl, rfl⟩, ⟨_, Heap.get?_push_size _ rfl⟩, fun h1 h2 y k => let ⟨ob, hb, r⟩ := y; ⟨ob, k ob hb, r⟩⟩, rfl, q _ (I.hok.fresh (Nat.le_refl _))⟩
theorem mt_nclear : MtR X "dict.clear" (rNClear X.prog X.w) := by
  intro pins s σ H x xs v us Q I rx rxs h
  obtain ⟨d, M, rfl, rfl, hd, q⟩ := h
  cases rx
  cases rxs
  obtain ⟨z1, z2, o, es, ep, ho, hx, hdat, hz, _⟩ := rdN I (.inl hd)
  have raw : s.heap.DictRaw d es ep := ⟨o, ho, hx, hdat⟩
  refine call_meetsIn F.slot_dict_clear raw.typeIs F.entry_dict_clear (F.args_dict_clear_1 _) (meets_dict_clear_raw d) ⟨es, ep, raw, by rw [hz]; exact z2, fun h' D' sb => ?_⟩
  obtain ⟨o', ho', hx', hd'⟩ := D'
  exact ⟨.non, _, d_write (t' := s.toks) I (by rw [hd]; exact True.intro) sb ⟨o', ho'⟩ (dicN_ok z1 (Nat.zero_le _) ⟨[], o', #[], _, .nil, ho', hx', hd', rfl, List.nodup_nil⟩), rfl, q⟩
/-- a method without arguments of such a dict -/
def tNM0 (P : Program) (w : World) (r : V → List V → Hp → VK → Prop) (to : TE) : TE := fun σ H Q => to σ H fun x H1 => (∃ d M, x = .ref d ∧ Rd H1 d (DicN P w d M)) ∧ r x [] H1 Q
theorem pe_nm0 {o : Expr} {to : TE} {name : Str} {apos cpos : Pos} {id : String} {r : V → List V → Hp → VK → Prop} (slot : Slot "dict" name id) (hty : typeOf (.builtin id) = pure (.type "method_descriptor")) (hm : MtR X id r) (ho : PE X o to)
    (hbase : attributeBase o name X.env (eval o X.env) = eval o X.env := by rfl) (hline : (apos.endLine == cpos.line) = true := by rfl) : PE X (.Call (.Attribute o name apos) [] [] cpos) (tNM0 X.prog X.w r to) := by
  refine ⟨fun pins s σ H Q I h => wpAny_Call_method0_late hbase hline (thn (ho.run pins s σ H _ I h) fun v s1 ⟨x, H1, I1, r1, ⟨d, M, ex, hd⟩, q1⟩ => ?_)⟩
  subst ex
  obtain rfl : v = Value.ref d := r1
  exact ⟨"dict", id, F.plainAttrs_dict, slot, hty, dn_typeIs I1 hd, dn_noDict I1 hd, Calls.callWith_builtin rfl (PySem.evalArgs_none (hm pins s1 σ H1 (.ref d) [] _ [] Q I1 rfl .nil q1))⟩
/-- list(d) -/
def rNList (P : Program) (w : World) : List V → Hp → VK → Prop := fun xs H Q => ∃ d M, xs = [.ref d] ∧ Rd H d (DicN P w d M) ∧ ∀ p, H p = none → Q (.ref p) (upd H p (.lst (M.map fun e => V.ref e.2.1)))
theorem rel_list {xs : List V} {us : List Value} (hl : us.length = xs.length) (h : ∀ (j : Nat) (x : V) (u : Value), xs[j]? = some x → us[j]? = some u → RelV x u) : Vals xs us := vals_of_at hl.symm h
theorem cr_nlist (hc : X.calm = true) : CallR X (.type "list") (rNList X.prog X.w) := by
  intro pins s σ H xs us Q I r h
  obtain ⟨d, M, rfl, hd, q⟩ := h
  rw [Vals.ref1 r]
  obtain ⟨z1, z2, o, es, ep, ho, hx, hdat, hz, ent⟩ := rdN I hd
  refine kdl_call (KdlSrc.rawDict (es := es) (ep := ep) z1) (I.ok.hd hc) ⟨o, ho, hx, hdat⟩ (by rw [hz]; exact z2) fun h' tk acc c kh sL it => ?_
  refine ⟨.ref s.heap.objs.size, _, I.laid (t' := tk) (o := .lst (M.map fun e => V.ref e.2.1)) kh (Nat.le_refl _) ⟨by rw [List.length_map]; exact z2, acc.toList, c, rel_list ?_ fun j x u e1 e2 => ?_, by rw [Array.toArray_toList]; exact sL⟩, rfl, q _ (I.hok.fresh (Nat.le_refl _))⟩
  · rw [Array.length_toList, it.1, hz, List.length_map]
  · obtain ⟨hi, ev⟩ := it.2 j u (by rw [← Array.getElem?_toList]; exact e2)
    rw [List.getElem?_map] at e1
    obtain ⟨e, he, rfl⟩ := Option.map_eq_some_iff.mp e1
    obtain ⟨en, f1, f2, _⟩ := ent j e he
    rw [Array.getElem?_eq_getElem hi] at f1
    cases f1
    rw [ev, f2]
    rfl
/-- list(d.values()) -/
def rNListV (P : Program) (w : World) : List V → Hp → VK → Prop := fun xs H Q => ∃ p d M, xs = [.ref p] ∧ H p = some (valsO p d) ∧ Rd H d (DicN P w d M) ∧ ∀ q, H q = none → Q (.ref q) (upd H q (.lst (M.map fun e => e.2.2)))
theorem cr_nlistV (hc : X.calm = true) : CallR X (.type "list") (rNListV X.prog X.w) := by
  intro pins s σ H xs us Q I r h
  obtain ⟨p, d, M, rfl, hp, hd, q⟩ := h
  rw [Vals.ref1 r]
  obtain ⟨z1, z2, o, es, ep, ho, hx, hdat, hz, ent⟩ := rdN I hd
  have hv : s.heap.IsValuesView p d := (I.hok p _ hp).1
  refine kdl_call (KdlSrc.rawValues (es := es) (ep := ep)) (I.ok.hd hc) ⟨hv, ⟨o, ho, hx, hdat⟩⟩ (by rw [hz]; exact z2) fun h' tk acc c kh sL it => ?_
  refine ⟨.ref s.heap.objs.size, _, I.laid (t' := tk) (o := .lst (M.map fun e => e.2.2)) kh (Nat.le_refl _) ⟨by rw [List.length_map]; exact z2, acc.toList, c, rel_list ?_ fun j x u e1 e2 => ?_, by rw [Array.toArray_toList]; exact sL⟩, rfl, q _ (I.hok.fresh (Nat.le_refl _))⟩
  · rw [Array.length_toList, it.1, hz, List.length_map]
  · obtain ⟨hi, ev⟩ := it.2 j u (by rw [← Array.getElem?_toList]; exact e2)
    rw [List.getElem?_map] at e1
    obtain ⟨e, he, rfl⟩ := Option.map_eq_some_iff.mp e1
    obtain ⟨en, f1, _, f3⟩ := ent j e he
    rw [Array.getElem?_eq_getElem hi] at f1
    cases f1
    rw [ev]
    exact f3
/-- list(d.items()) -/
def rNListP (P : Program) (w : World) : List V → Hp → VK → Prop := fun xs H Q => ∃ p d M, xs = [.ref p] ∧ H p = some (DX.itemsO p d) ∧ Rd H d (DicN P w d M) ∧
  ∀ (H' : Hp) (q : Addr) (ts : List Addr), (∀ b o, H b = some o → H' b = some o) → H q = none → H' q = some (.lst (ts.map V.ref)) → Paired (fun (t : Addr) (e : V × V) => H' t = some (.tup [e.1, e.2])) ts (M.map pairN) → Q (.ref q) H'
theorem cr_nlistP (hc : X.calm = true) : CallR X (.type "list") (rNListP X.prog X.w) := by
  intro pins s σ H xs us Q I r h
  obtain ⟨p, d, M, rfl, hp, hd, q⟩ := h
  rw [Vals.ref1 r]
  obtain ⟨z1, z2, o, es, ep, ho, hx, hdat, hz, ent⟩ := rdN I hd
  have hv : s.heap.IsItemsView p d := (I.hok p _ hp).1
  refine list_items (I.ok.hd hc) hv ⟨o, ho, hx, hdat⟩ (by rw [hz]; exact z2) fun h' tk acc c as kh sL hl gm ac => ?_
  obtain ⟨H', k1, k2, k3, k4, k5, J⟩ := laidP (tk := tk) (ps := M.map pairN) I (by rw [List.length_map]; exact z2) (Nat.le_refl _) (fun a ha => Nat.le_of_lt (gm.above a ha)) (gm.rise.imp fun {a b} (y : a < b) => Nat.ne_of_lt y) (fun y => Nat.lt_irrefl _ (gm.above _ y)) kh sL (by rw [hl, hz, List.length_map]) (made_pairs gm hz ent) ac
  exact ⟨.ref _, H', J, rfl, q H' _ as k1 k2 k4 k5⟩
end
end ND

/-! ## W5 -/
set_option maxRecDepth 100000
set_option maxHeartbeats 2000000
/-! W5: sorted(list), sorted(d), sorted(d.items()) -/
namespace ND
open PySem PySem.Spec PyProof.Rows L2 NS PySem.W
theorem kr_same {K : PySem.W.Frag} {H H' : Hp} (g : ∀ t vs, SqT K H t vs → SqT K H' t vs) {m : NS.Row} (x : Kr K H m) : Kr K H' m := ⟨kv_same g _ _ x.1, x.2⟩
theorem sqT_mono {K : PySem.W.Frag} {H H' : Hp} (g : ∀ b o, H b = some o → H' b = some o) (t : Addr) (vs : List V) (x : SqT K H t vs) : SqT K H' t vs := by
  rcases x with (x | ⟨o, x⟩) | x
  · exact .inl (.inl (g _ _ x))
  · exact .inl (.inr ⟨o, g _ _ x⟩)
  · exact .inr x
theorem kr_tup {K : PySem.W.Frag} {H : Hp} {m : NS.Row} (x : Kr K H m) : ∃ ks, m.2 = .tup ks := by
  obtain ⟨b, k⟩ := m
  obtain ⟨x, _⟩ := x
  cases x with
  | tup _ _ => exact ⟨_, rfl⟩
section
variable {X : Cx}
/-- sorted(a list of tuples), some perhaps empty -/
def rSortL0 (K : PySem.W.Frag) : List V → Hp → VK → Prop := fun vs H Q => ∃ (l : Addr) (N : List NS.Row) (c : Nat), vs = [V.ref l] ∧ SqL K H l (N.map fun m => V.ref m.1) ∧ (∀ m ∈ N, Kr K H m) ∧ Lined0 c N ∧
  ∀ (M' : List NS.Row) (p : Addr), M'.Perm N → M'.Pairwise (fun m m' => ltK m'.2 m.2 = false) → H p = none → Q (.ref p) (upd H p (.lst (M'.map fun m => V.ref m.1)))
theorem cr_sortL0 (hu : X.A.units + 64 < cLine) : CallR X (.builtin "sorted") (rSortL0 X.K) := by
  intro pins s σ H vs us Q I r h
  obtain ⟨l, N, c, rfl, hl, hk, L, q⟩ := h
  rw [Vals.ref1 r]
  obtain ⟨its, rv, pl, hz⟩ := I.list hl
  have ei := refs_row rv
  subst ei
  obtain ⟨So, at_⟩ := sorts0_of I hk L
  have hz2 : (N.map fun m => Value.ref m.1).length ≤ sizeLine := by
    rw [List.length_map] at hz ⊢
    exact hz
  refine SrtO.sorted_ord (swo_by (keyOf N)) pl.isList hz2 (fun h2 h1 a ha kk => ?_) fun out hs hb => ?_
  · refine sorts0_ok (s := { s with heap := h1 }) (So.grow fun b o e _ => (kk b o e).2) (by omega) (by simp only [Around.in1_units]; omega) fun o e z => ?_
    rw [ha] at e
    cases e
    exact absurd (Value.type.inj z) (by decide)
  · obtain ⟨M', eo, pM⟩ := perm_rows N out hb.perm
    obtain ⟨n, hn⟩ := sortedAll_at s.heap (N.map fun m => Value.ref m.1) out.toArray
    refine ⟨.ref (s.heap.objs.size + 1), _, I.laid (t' := s.toks) (o := .lst (M'.map fun m => V.ref m.1)) (fun b o e => sortedAll_old e) (Nat.le_succ _) ⟨?_, out, n, by rw [eo]; exact row_refs M', hn⟩, rfl, q M' _ pM ?_ (I.hok.fresh (Nat.le_succ _))⟩
    · rw [List.length_map, pM.length_eq]
      rw [List.length_map] at hz
      exact hz
    · rw [eo] at hs
      refine List.Pairwise.imp_of_mem (fun {m m'} hm hm' hp => ?_) (List.pairwise_map.mp hs)
      dsimp only at hp
      rw [at_ m (pM.mem_iff.mp hm), at_ m' (pM.mem_iff.mp hm')] at hp
      exact hp
/-- sorted(d) -/
def rNSort (P : Program) (w : World) (K : PySem.W.Frag) : List V → Hp → VK → Prop := fun vs H Q => ∃ (d : Addr) (M : List En) (c : Nat), vs = [V.ref d] ∧ Rd H d (DicN P w d M) ∧ Keyed K H M ∧ Lined0 c (M.map rowN) ∧
  ∀ (M' : List NS.Row) (p : Addr), M'.Perm (M.map rowN) → M'.Pairwise (fun m m' => ltK m'.2 m.2 = false) → H p = none → Q (.ref p) (upd H p (.lst (M'.map fun m => V.ref m.1)))
theorem cr_nsort (hc : X.calm = true) (hu : X.A.units + 64 < cLine) : CallR X (.builtin "sorted") (rNSort X.prog X.w X.K) := by
  intro pins s σ H vs us Q I r h
  obtain ⟨d, M, c, rfl, hd, hk, L, q⟩ := h
  rw [Vals.ref1 r]
  obtain ⟨z1, z2, o, es, ep, ho, hx, hdat, hz, ent⟩ := rdN I hd
  refine Calls.call_function_entry kind_sorted plain_sorted entry_sorted (args_sorted1 _) ?_
  unfold Builtin.«sorted»
  refine wpAny_bind (m := checkCount "sorted" 1 1 _) (wpAny_pure ?_)
  refine wpAny_bind (kdu_collect (A := X.A.in1) (KdlSrc.rawDict (es := es) (ep := ep) z1) (I.ok.hd hc) ⟨o, ho, hx, hdat⟩ (by rw [hz]; exact z2) fun h' tk acc kh it => ?_)
  have len : acc.toList.length = M.length := by rw [Array.length_toList, it.1, hz]
  refine wpAny_bind (wpAny_newList ?_ (by rw [len]; exact z2))
  have I1 : Inv X pins σ H { s with heap := h', toks := tk } := I.kept (t' := tk) kh
  have new : H h'.objs.size = none := I1.hok.fresh (Nat.le_refl _)
  have vals : Vals ((M.map rowN).map fun m => V.ref m.1) acc.toList := by
    rw [List.map_map]
    refine rel_list (by rw [List.length_map]; exact len) fun j x u e1 e2 => ?_
    obtain ⟨hi, ev⟩ := it.2 j u (by rw [← Array.getElem?_toList]; exact e2)
    rw [List.getElem?_map] at e1
    obtain ⟨e, he, rfl⟩ := Option.map_eq_some_iff.mp e1
    obtain ⟨en, f1, f2, _⟩ := ent j e he
    rw [Array.getElem?_eq_getElem hi] at f1
    cases f1
    rw [ev, f2]
    rfl
  have I2 : Inv X pins σ (upd H h'.objs.size (.lst ((M.map rowN).map fun m => V.ref m.1))) { s with heap := h'.push { cls := .type "list", data := .seq acc.toList.toArray }, toks := tk } :=
    I1.laid (t' := tk) (fun b u z => Heap.get?_push_of_some _ z) (Nat.le_refl _) ⟨by rw [List.length_map, List.length_map]; exact z2, acc.toList, 0, vals, Heap.get?_push_size _ rfl⟩
  have up : ∀ b o, H b = some o → upd H h'.objs.size (.lst ((M.map rowN).map fun m => V.ref m.1)) b = some o := fun b o z => by
    rw [upd_ne fun y => by rw [y, new] at z; cases z]
    exact z
  refine wpAny_bind (wpAny_holding (sort0_body (by simp only [Around.in1_units]; omega) I2 upd_same (fun m hm => ?_) L fun M' s' pM pw J => wpAny_pure ⟨_, rfl, .ref h'.objs.size, _, J, rfl, ?_⟩))
  · obtain ⟨e, he, rfl⟩ := List.mem_map.mp hm
    exact kr_same (sqT_mono up) (hk e he)
  · rw [upd_upd]
    exact q M' _ pM pw new
/-- the key of a pair (a key, a number) -/
def numK (f : En → Int) (e : En) : NestedKey := .tup [e.1, .num (f e)]
/-- sorted(d.items()), the values numbers -/
def rNSortP (P : Program) (w : World) (K : PySem.W.Frag) : List V → Hp → VK → Prop := fun vs H Q => ∃ (p d : Addr) (M : List En) (c : Nat) (f : En → Int), vs = [V.ref p] ∧ H p = some (DX.itemsO p d) ∧ Rd H d (DicN P w d M) ∧ Keyed K H M ∧ (∀ e ∈ M, e.2.2 = .int (f e)) ∧ (∀ e ∈ M, e.1.depth ≤ 6) ∧
  (∀ e ∈ M, ∀ e' ∈ M, okK (numK f e) (numK f e') = true) ∧
  ∀ (H' : Hp) (M' : List NS.Row) (q : Addr), (∀ b o, H b = some o → H' b = some o) → (M'.map (·.2)).Perm (M.map (numK f)) → (∀ m ∈ M', Kr K H' m) → M'.Pairwise (fun m m' => ltK m'.2 m.2 = false) → H q = none → H' q = some (.lst (M'.map fun m => V.ref m.1)) → Q (.ref q) H'
theorem pair_rows {α : Type} (g : α → NestedKey) : ∀ (ts : List Addr) (es : List α), ts.length = es.length → (ts.zip (es.map g)).map (fun m => V.ref m.1) = ts.map V.ref ∧ (ts.zip (es.map g)).map (·.2) = es.map g
  | [], [], _ => ⟨rfl, rfl⟩
  | [], _ :: _, h => by cases h
  | _ :: _, [], h => by cases h
  | t :: ts, e :: es, h => by
    obtain ⟨h1, h2⟩ := pair_rows g ts es (Nat.succ.inj h)
    simp only [List.map_cons, List.zip_cons_cons]
    exact ⟨by rw [h1], by rw [h2]⟩
theorem cr_nsortP (hc : X.calm = true) (hu : X.A.units + 64 < cLine) : CallR X (.builtin "sorted") (rNSortP X.prog X.w X.K) := by
  intro pins s σ H vs us Q I r h
  obtain ⟨p, d, M, c, f, rfl, hp, hd, hk, hf, hdep, two, q⟩ := h
  rw [Vals.ref1 r]
  obtain ⟨z1, z2, o, es, ep, ho, hx, hdat, hz, ent⟩ := rdN I hd
  have hv : s.heap.IsItemsView p d := (I.hok p _ hp).1
  refine DT.sortedI (I.ok.hd hc) hv ⟨o, ho, hx, hdat⟩ (by rw [hz]; exact z2) fun h' tk as kh lt hl gm => ?_
  have below : ∀ a ∈ as, a < h'.objs.size := fun a ha => gm.there ha
  have hl2 : as.length = M.length := by rw [hl, hz]
  obtain ⟨H', k1, k2, k3, k4, k5, J⟩ := laidP (tk := tk) (h' := h'.push { cls := .type "list", data := .seq (as.map Value.ref).toArray }) (ps := M.map pairN) (S := h'.objs.size) (acc := (as.map Value.ref).toArray) (c := 0) I (by rw [List.length_map]; exact z2) (Nat.le_of_lt lt) (fun a ha => Nat.le_of_lt (gm.above a ha)) (gm.rise.imp fun {a b} (y : a < b) => Nat.ne_of_lt y) (fun y => Nat.lt_irrefl _ (below _ y))
    (fun b u z => Heap.get?_push_of_some _ (kh b u z)) (Heap.get?_push_size _ rfl) (by rw [List.length_map, hl2]) (fun j a ha => by
      obtain ⟨pr, x, y, g1, g2, g3, g4⟩ := made_pairs gm hz ent j a ha
      exact ⟨pr, x, y, g1, g2, g3, Heap.get?_push_of_some _ g4⟩) (by simp)
  obtain ⟨r1, r2⟩ := pair_rows (numK f) as M hl2
  have each : ∀ m ∈ as.zip (M.map (numK f)), Kr X.K H' m ∧ ∃ e ∈ M, m.2 = numK f e := by
    intro m hm
    obtain ⟨j, hj⟩ := List.mem_iff_getElem?.mp hm
    obtain ⟨g1, g2⟩ := List.getElem?_zip_eq_some.mp hj
    rw [List.getElem?_map] at g2
    obtain ⟨e, he, ee⟩ := Option.map_eq_some_iff.mp g2
    have em := List.mem_of_getElem? he
    obtain ⟨pr, f1, f2⟩ := paired_get k5 g1
    rw [List.getElem?_map, he] at f1
    cases f1
    have ke := kr_same (sqT_mono k1) (hk e em)
    refine ⟨⟨?_, ?_⟩, e, em, ee.symm⟩
    · rw [← ee]
      refine .tup (SqT.of f2) (.cons ke.1 (.cons ?_ .nil))
      rw [show (pairN e).2 = e.2.2 from rfl, hf e em]
      exact .int _
    · rw [← ee]
      have := hdep e em
      simp only [numK, NestedKey.depth, NestedKey.depthAll]
      omega
  refine wpAny_mono (sort0_body (c := 3) (N := as.zip (M.map (numK f))) (by simp only [Around.in1_units]; omega) J (by rw [r1]; exact k4) (fun m hm => (each m hm).1) ⟨.inr (.inr rfl), fun m hm => ?_, fun m hm m' hm' => ?_⟩ (Q := fun _ s' => EP X pins σ Q (.ref h'.objs.size) s') fun M' s' pM pw J2 => ?_) (fun _ _ y => y) fun _ _ y => y
  · obtain ⟨_, e, em, ee⟩ := each m hm
    obtain ⟨ks, ek⟩ := kr_tup (hk e em)
    refine .inl ⟨e.1, [.num (f e)], ee, ?_⟩
    have ek' : e.1 = .tup ks := ek
    rw [ek']
    rfl
  · obtain ⟨_, e, em, ee⟩ := each m hm
    obtain ⟨_, e', em', ee'⟩ := each m' hm'
    rw [ee, ee']
    exact two e em e' em'
  · have ne : ∀ b o, H b = some o → b ≠ h'.objs.size := fun b o z y => by rw [y, k2] at z; cases z
    have notT : ∀ t vs, SqT X.K H' t vs → SqT X.K (upd H' h'.objs.size (.lst (M'.map fun m => V.ref m.1))) t vs := fun t vs z => by
      rcases z with (z | ⟨o, z⟩) | z
      · exact .inl (.inl (by rw [upd_ne fun y => by rw [y, k4] at z; cases z]; exact z))
      · exact .inl (.inr ⟨o, by rw [upd_ne fun y => by rw [y, k4] at z; cases z]; exact z⟩)
      · exact .inr z
    refine ⟨.ref h'.objs.size, _, J2, rfl, q _ M' _ (fun b o z => ?_) ?_ (fun m hm => kr_same notT (each m (pM.mem_iff.mp hm)).1) pw k2 upd_same⟩
    · rw [upd_ne (ne b o z)]
      exact k1 b o z
    · have y := pM.map (·.2)
      rw [r2] at y
      exact y
end
end ND

/-! ## W6 -/
set_option maxRecDepth 100000
set_option maxHeartbeats 2000000
/-! W6: == of two such dicts whose values are numbers -/
namespace ND
open PySem PySem.Spec PyProof.Rows L2 NS PySem.W
def numN : V → Int
  | .int i => i
  | _ => 0
/-- the same keys with the same numbers, in any order -/
def hasN (M' : List En) (e : En) : Bool := match valN M' e.1 with
  | some y => decide (numN e.2.2 = numN y)
  | none => false
def sameN (M M' : List En) : Bool := M.length == M'.length && M.all (hasN M')
abbrev Nums (M : List En) : Prop := ∀ e ∈ M, ∃ n, e.2.2 = .int n
theorem KN.get {M : List En} {xs : List Re} (r : KN M xs) {j : Nat} {x : Re} (h : xs[j]? = some x) : ∃ e, M[j]? = some e ∧ e.1 = x.1 ∧ e.2.1 = x.2.1 ∧ RelV e.2.2 x.2.2 := by
  have lt : j < M.length := by
    have := r.length
    have := (List.getElem?_eq_some_iff.mp h).1
    omega
  obtain ⟨y, hy, h1, h2, h3⟩ := paired_get r (List.getElem?_eq_getElem lt)
  rw [h] at hy
  cases hy
  exact ⟨_, List.getElem?_eq_getElem lt, h1, h2, h3⟩
theorem KN.keys {M : List En} {xs : List Re} (r : KN M xs) : M.map (·.1) = xs.map (·.1) := by
  induction r with
  | nil => rfl
  | cons h t ih => rw [List.map_cons, List.map_cons, ih, h.1]
theorem valN_mem {M : List En} (hn : (M.map (·.1)).Nodup) {e : En} (he : e ∈ M) : valN M e.1 = some e.2.2 := by
  induction M with
  | nil => cases he
  | cons a M ih =>
    rw [List.map_cons, List.nodup_cons] at hn
    rw [valN]
    rcases List.mem_cons.mp he with z | z
    · rw [← z, if_pos rfl]
    · rw [if_neg (fun y => hn.1 (by rw [y]; exact List.mem_map.mpr ⟨e, z, rfl⟩))]
      exact ih hn.2 z
theorem valN_none {M : List En} {k : NestedKey} (h : k ∉ M.map (·.1)) : valN M k = none := by
  cases z : valN M k with
  | none => rfl
  | some v => exact absurd (valN_some.mp (by rw [z]; rfl)) h
section
variable {P : Program} {w : World} {A : Around} {E : Value → Shared → Prop} {s : Shared}
theorem same_pairs {nm : String} {a b : Addr} {M M' : List En} {xa xb : List Re} {Q : Bool → Shared → Prop} (ha : (a == sysModules) = false) (hb : (b == sysModules) = false) (hu : A.units + 8 < cLine)
    (da : s.heap.DictOfH (nestedKind P w) a xa) (db : s.heap.DictOfH (nestedKind P w) b xb) (ra : KN M xa) (rb : KN M' xb) (na : Nums M) (nb : Nums M') (q : Q (sameN M M') s) : wpAny (model P w) A (Builtin.Dict.samePairs nm a b) Q E s := by
  obtain ⟨oa, es, ep, hoa, _, hda, hea, hia, hna⟩ := da
  obtain ⟨ob, es', ep', hob, _, hdb, heb, hib, hnb⟩ := db
  have la : M.length = es.size := by rw [size_of_entries hea]; exact ra.length
  have lb : M'.length = es'.size := by rw [size_of_entries heb]; exact rb.length
  have nd' : (M'.map (·.1)).Nodup := by rw [rb.keys]; exact hnb
  unfold Builtin.Dict.samePairs Builtin.Dict.showsAll
  rw [if_neg (show ¬ (a == sysModules) = true by rw [ha]; exact Bool.false_ne_true), if_neg (show ¬ (b == sysModules) = true by rw [hb]; exact Bool.false_ne_true)]
  refine wpAny_bind (wpAny_pure (wpAny_bind (wpAny_pure ?_)))
  refine wpAny_bind (wpAny_dictEntries hoa hda ?_)
  dsimp only
  refine wpAny_bind (wpAny_dictEntries hob hdb ?_)
  unfold sameN at q
  by_cases hsz : es.size = es'.size
  case neg =>
    rw [if_pos (by simpa using hsz)]
    have z : (M.length == M'.length) = false := by rw [la, lb]; simpa using hsz
    rw [z, Bool.false_and] at q
    exact wpAny_bind (wpAny_rule (wpAny_pure q))
  case pos =>
    have z : (M.length == M'.length) = true := by rw [la, lb, hsz]; exact beq_self_eq_true _
    rw [z, Bool.true_and] at q
    rw [if_neg (by rw [hsz]; simp)]
    refine wpAny_bind (wpAny_dictEpoch hoa hda ?_)
    refine wpAny_bind ?_
    rw [Std.Legacy.Range.forIn_eq_forIn_range']
    simp only [Std.Legacy.Range.size, Nat.sub_zero, Nat.add_sub_cancel, Nat.div_one]
    refine wpAny_forIn_list _ (fun left r s' => s' = s ∧ r = (none, ()) ∧ ∃ i, left = List.range' i (es.size - i) ∧ i ≤ es.size ∧ Q ((M.drop i).all (hasN M')) s) _ ?_ ?_ _ _ ⟨rfl, rfl, 0, by simp, Nat.zero_le _, q⟩
    · rintro x left r s' ⟨rfl, rfl, i, hr, hi, q⟩
      have lt : i < es.size := by
        rcases Nat.lt_or_ge i es.size with y | y
        · exact y
        · rw [Nat.sub_eq_zero_of_le y] at hr; simp at hr
      obtain ⟨rfl, hleft⟩ : x = i ∧ left = List.range' (i + 1) (es.size - (i + 1)) := by
        have y : es.size - i = (es.size - (i + 1)) + 1 := by omega
        rw [y, List.range'_succ] at hr
        injection hr with h1 h2
        exact ⟨h1, h2⟩
      refine wpAny_bind (wpAny_dictEntries hoa hda ?_)
      rw [Array.getElem?_eq_getElem lt]
      have ltM : x < M.length := by rw [la]; exact lt
      obtain ⟨y, hy, k1, k2, k3⟩ := paired_get ra (List.getElem?_eq_getElem ltM)
      obtain ⟨n, hn⟩ := na _ (List.getElem_mem ltM)
      have ee := entry_at hea x
      rw [hy, Array.getElem?_eq_getElem lt] at ee
      have ee' : es[x] = entryOfKey (nestedKind P w) y := Option.some.inj ee
      have drop : M.drop x = M[x] :: M.drop (x + 1) := List.drop_eq_getElem_cons ltM
      rw [drop, List.all_cons] at q
      rw [hn] at k3
      obtain ⟨tn, hval⟩ := k3
      have hkey : (nestedKind P w).is s'.heap y.1 y.2.1 := hia _ (List.mem_of_getElem? hy)
      show wpAny _ _ (holding [es[x].key, es[x].val] _ >>= _) _ _ _
      rw [ee']
      refine wpAny_bind (wpAny_holding (wpAny_bind (wpAny_dictFind_heap (knd := nestedKind P w) (k := y.1) (a := y.2.1) hu hkey hob hdb heb hib hnb (fun no => ?_) fun j p hj => ?_)))
      · have out : hasN M' M[x] = false := by
          have : valN M' M[x].1 = none := by
            refine valN_none fun hm => ?_
            rw [k1, rb.keys] at hm
            obtain ⟨z, hz, ez⟩ := List.mem_map.mp hm
            obtain ⟨j, hj⟩ := List.mem_iff_getElem?.mp hz
            exact no j z.2 (by rw [hj, ← ez])
          unfold hasN
          rw [this]
        rw [out, Bool.false_and] at q
        refine wpAny_pure ?_
        show wpAny _ _ (if (!false) = true then _ else _) _ _ _
        rw [if_pos (by decide)]
        exact wpAny_pure (wpAny_pure q)
      · have ltb : j < es'.size := by
          rw [size_of_entries heb]
          exact (List.getElem?_eq_some_iff.mp hj).1
        obtain ⟨e', he', g1, g2, g3⟩ := rb.get hj
        obtain ⟨m, hm⟩ := nb _ (List.mem_of_getElem? he')
        rw [hm] at g3
        obtain ⟨tm, hval'⟩ := g3
        have eb := entry_at heb j
        rw [hj, Array.getElem?_eq_getElem ltb] at eb
        have eb' : es'[j] = entryOfKey (nestedKind P w) (y.1, p) := Option.some.inj eb
        have is : hasN M' M[x] = decide (n = m) := by
          have v := valN_mem nd' (List.mem_of_getElem? he')
          unfold hasN
          rw [k1, ← g1, v, hn, hm]
          rfl
        refine wpAny_bind (wpAny_dictEntries hob hdb ?_)
        rw [Array.getElem?_eq_getElem ltb, eb']
        show wpAny _ _ (holding [p.2] (eqBool y.2.2 p.2)) _ _ _
        have p2 : p.2 = Value.int m tm := hval'
        rw [hval, p2]
        refine wpAny_holding (SeqAt.EqAt.int_int n tn m tm P w _ _ ?_)
        rw [is] at q
        by_cases c : n = m
        · rw [decide_eq_true c, Bool.true_and] at q
          have dn : (n == m) = true := by simpa using c
          rw [dn]
          show wpAny _ _ (if (!true) = true then _ else _) _ _ _
          rw [if_neg (by decide)]
          refine wpAny_bind (wpAny_dictEpoch hoa hda ?_)
          rw [if_neg (by simp)]
          exact wpAny_pure ⟨rfl, rfl, x + 1, hleft, lt, q⟩
        · rw [decide_eq_false c, Bool.false_and] at q
          have dn : (n == m) = false := by simpa using c
          rw [dn]
          show wpAny _ _ (if (!false) = true then _ else _) _ _ _
          rw [if_pos (by decide)]
          exact wpAny_pure (wpAny_pure q)
    · rintro r s' ⟨rfl, rfl, i, hr, hi, q⟩
      have full : i = es.size := by
        rcases Nat.lt_or_ge i es.size with y | y
        · have z : es.size - i = (es.size - (i + 1)) + 1 := by omega
          rw [z, List.range'_succ] at hr; exact nomatch hr
        · exact Nat.le_antisymm hi y
      rw [full, ← la, List.drop_length] at q
      exact wpAny_pure q
theorem rich_dicts {a b : Addr} {M M' : List En} {xa xb : List Re} {Q : Value → Shared → Prop} (ha : (a == sysModules) = false) (hb : (b == sysModules) = false) (hu : A.units + 9 < cLine)
    (da : s.heap.DictOfH (nestedKind P w) a xa) (db : s.heap.DictOfH (nestedKind P w) b xb) (ra : KN M xa) (rb : KN M' xb) (na : Nums M) (nb : Nums M') (q : Q (.bool (sameN M M')) s) : wpAny (model P w) A (richCompare .Eq (.ref a) (.ref b)) Q E s := by
  refine wpAny_richCompare_same_room (op := .Eq) da.typeIs db.typeIs F.slot_dict_eq (wpAny_call_entry F.slot_dict_eq da.typeIs F.entry_dict_eq ?_ (F.args_dict_eq_2 _ _)) (by omega)
  show wpAny _ _ (Builtin.Dict.dictSlotArgs "__eq__" ⟨[.ref a, .ref b], []⟩ >>= _) _ _ s
  refine wpAny_bind ?_
  unfold Builtin.Dict.dictSlotArgs
  refine wpAny_bind (wpAny_notOrdered_dict da.typeIs ?_)
  show wpAny _ _ (pure (Value.ref a, Value.ref b)) _ _ s
  refine wpAny_pure ?_
  refine wpAny_bind (wpAny_isInstance (T := "dict") db.typeIs F.sub_dict_dict ?_)
  simp only [Bool.not_true, Bool.false_eq_true, if_false]
  refine wpAny_bind (wpAny_pure (wpAny_bind (wpAny_pure ?_)))
  refine wpAny_bind (same_pairs ha hb (by simp only [Around.in1_units]; omega) da db ra rb na nb ?_)
  refine wpAny_pure ⟨_, rfl, ?_, ?_⟩
  · exact fun x => nomatch x
  · simpa using q
end
/-- a == b -/
def rNEq (P : Program) (w : World) (K : PySem.W.Frag) : R2 := fun x y H Q => ∃ (a b : Addr) (M M' : List En), x = .ref a ∧ y = .ref b ∧ Rd H a (DicN P w a M) ∧ Rd H b (DicN P w b M') ∧ Keyed K H M ∧ Keyed K H M' ∧ Nums M ∧ Nums M' ∧ Q (.bl (sameN M M')) H
theorem op_neqN {X : Cx} (hu : X.A.units + 9 < cLine) : OpR X (compareOp .Eq) (rNEq X.prog X.w X.K) := by
  intro pins s σ H x y v u Q I rx ry h
  obtain ⟨a, b, M, M', rfl, rfl, ha, hb, ka, kb, na, nb, q⟩ := h
  cases rx
  cases ry
  obtain ⟨xa, ra, da⟩ := dn_dict I ha ka
  obtain ⟨xb, rb, db⟩ := dn_dict I hb kb
  exact rich_dicts (dn_at I ha).1 (dn_at I hb).1 hu da db ra rb na nb ⟨.bl (sameN M M'), H, I, rfl, q⟩
end ND

/-! ## W7 -/
set_option maxRecDepth 100000
set_option maxHeartbeats 2000000
/-! W7: != of such dicts; dict(a list of pairs) -/
namespace ND
open PySem PySem.Spec PyProof.Rows L2 NS PySem.W
/-- a != b -/
def rNNe (P : Program) (w : World) (K : PySem.W.Frag) : R2 := fun x y H Q => ∃ (a b : Addr) (M M' : List En), x = .ref a ∧ y = .ref b ∧ Rd H a (DicN P w a M) ∧ Rd H b (DicN P w b M') ∧ Keyed K H M ∧ Keyed K H M' ∧ Nums M ∧ Nums M' ∧ Q (.bl (!sameN M M')) H
theorem op_nneN {X : Cx} (hu : X.A.units + 9 < cLine) : OpR X (compareOp .NotEq) (rNNe X.prog X.w X.K) := by
  intro pins s σ H x y v u Q I rx ry h
  obtain ⟨a, b, M, M', rfl, rfl, ha, hb, ka, kb, na, nb, q⟩ := h
  cases rx
  cases ry
  obtain ⟨xa, ra, da⟩ := dn_dict I ha ka
  obtain ⟨xb, rb, db⟩ := dn_dict I hb kb
  refine wpAny_richCompare_same_room (op := .NotEq) da.typeIs db.typeIs F.slot_dict_ne (wpAny_call_entry F.slot_dict_ne da.typeIs F.entry_dict_ne ?_ (F.args_dict_ne_2 _ _)) (by omega)
  show wpAny _ _ (Builtin.Dict.dictSlotArgs "__ne__" ⟨[.ref a, .ref b], []⟩ >>= _) _ _ s
  refine wpAny_bind ?_
  unfold Builtin.Dict.dictSlotArgs
  refine wpAny_bind (wpAny_notOrdered_dict da.typeIs ?_)
  show wpAny _ _ (pure (Value.ref a, Value.ref b)) _ _ s
  refine wpAny_pure ?_
  refine wpAny_bind (wpAny_isInstance (T := "dict") db.typeIs F.sub_dict_dict ?_)
  simp only [Bool.not_true, Bool.false_eq_true, if_false]
  refine wpAny_bind (wpAny_pure (wpAny_bind (wpAny_pure ?_)))
  refine wpAny_bind (same_pairs (dn_at I ha).1 (dn_at I hb).1 (by simp only [Around.in1_units]; omega) da db ra rb na nb ?_)
  refine wpAny_pure ⟨_, rfl, ?_, ?_⟩
  · exact fun x => nomatch x
  · have e : (sameN M M' == false) = !sameN M M' := by cases sameN M M' <;> rfl
    rw [e]
    exact ⟨.bl (!sameN M M'), H, I, rfl, q⟩
section
variable {X : Cx}
theorem pairs_are {pins : List (Addr × Obj)} {σ : L2.St} {H : Hp} {s : Shared} (I : Inv X pins σ H s) : ∀ {ts : List Addr} {M : List En}, Paired (fun (t : Addr) (e : En) => SqT X.K H t [.ref e.2.1, e.2.2]) ts M →
    ∃ xs : List Re, KN M xs ∧ xs.length = ts.length ∧ ∀ (j : Nat) (x : Re), xs[j]? = some x → ∃ b : Addr, ts[j]? = some b ∧ IsTup s.heap b #[.ref x.2.1, x.2.2]
  | _, _, .nil => ⟨[], .nil, rfl, fun j x e => by simp at e⟩
  | _, _, .cons (a := t) (b := e) h r => by
    obtain ⟨xs, k1, k2, k3⟩ := pairs_are I r
    obtain ⟨its, rv, p, _⟩ := I.tuple h
    cases rv with
    | cons r1 r2 =>
      cases r2 with
      | @cons _ u _ _ r3 r4 =>
        cases r4
        cases r1
        refine ⟨(e.1, e.2.1, u) :: xs, .cons ⟨rfl, rfl, r3⟩ k1, by rw [List.length_cons, List.length_cons, k2], fun j x z => ?_⟩
        cases j with
        | zero =>
          simp only [List.getElem?_cons_zero, Option.some.injEq] at z
          subst z
          exact ⟨t, rfl, p⟩
        | succ j =>
          simp only [List.getElem?_cons_succ] at z ⊢
          exact k3 j x z
/-- dict(xs), the keys different -/
def rNOf (P : Program) (w : World) (K : PySem.W.Frag) : List V → Hp → VK → Prop := fun vs H Q => ∃ (l : Addr) (ts : List Addr) (M : List En), vs = [.ref l] ∧ SqL K H l (ts.map V.ref) ∧ Paired (fun (t : Addr) (e : En) => SqT K H t [.ref e.2.1, e.2.2]) ts M ∧ Keyed K H M ∧ (M.map (·.1)).Nodup ∧
  ∀ p, H p = none → Q (.ref p) (upd H p (DicN P w p M))
theorem cr_nof (hc : X.calm = true) (hu : X.A.units + 64 < cLine) : CallR X (.type "dict") (rNOf X.prog X.w X.K) := by
  intro pins s σ H vs us Q I r h
  obtain ⟨l, ts, M, rfl, hl, hp, hk, hn, q⟩ := h
  rw [Vals.ref1 r]
  obtain ⟨its, rv, pl, hz⟩ := I.list hl
  have ei := refs_at rv
  subst ei
  obtain ⟨xs, rel, hlen, hpr⟩ := pairs_are I hp
  obtain ⟨o, n, ho, hcl, hd, hdat⟩ := pl
  rw [List.length_map] at hz
  have lM : M.length = xs.length := rel.length
  refine call_dict_pairsH (knd := nestedKind X.prog X.w) (ps := xs) (PairArg.list l (ts.map Value.ref).toArray (fun j => (ts[j]?).getD 0) (xs.map fun x => (Value.ref x.2.1, x.2.2))) (I.ok.hd hc) (show X.A.in1.in1.units + 8 < cLine by simp only [Around.in1_units]; omega)
    ⟨⟨o, n, ho, hcl, hd, hdat⟩, by simp [hlen], fun j k v e => ?_⟩ ⟨by rw [List.length_map], fun i key v e => ?_⟩ (fun h' kp x hx => ?_) (by rw [List.length_map, hlen]; exact hz) fun h' tk D kp => ?_
  · rw [List.getElem?_map] at e
    obtain ⟨x, hx, ex⟩ := Option.map_eq_some_iff.mp e
    cases ex
    obtain ⟨b, hb, tb⟩ := hpr j x hx
    refine ⟨by simp [hb], .inl ?_⟩
    show s.heap.IsTuple ((ts[j]?).getD 0) _
    rw [hb]
    exact tb
  · have e' : (xs.map fun x => (Value.ref x.2.1, x.2.2))[i]? = some (key, v) := e
    rw [List.getElem?_map] at e'
    obtain ⟨x, hx, ex⟩ := Option.map_eq_some_iff.mp e'
    cases ex
    exact ⟨x.1, x.2.1, hx, rfl⟩
  · obtain ⟨j, hj⟩ := List.mem_iff_getElem?.mp hx
    obtain ⟨e, he, g1, g2, _⟩ := rel.get hj
    have z := at_of_kr I (hk e (List.mem_of_getElem? he))
    have z' : At s.heap x.1 x.2.1 := by
      rw [← g1, ← g2]
      exact z
    exact z'.grow fun c u y => kp c u (Nat.ne_of_lt (Heap.lt_size y)) (fun y => nomatch y) y
  · have hm : (s.heap.objs.size == sysModules) = false := beq_eq_false_iff_ne.mpr (Nat.ne_of_gt I.big)
    have nd : (xs.map (·.1)).Nodup := by rw [← rel.keys]; exact hn
    rw [storedAllH_nil_of_nodup xs nd] at D
    obtain ⟨o', es, ep, ho', hx', hd', he', _, hn'⟩ := D
    exact ⟨.ref s.heap.objs.size, _, I.laid (t' := tk) (fun b u z => kp b u (fun y => nomatch y) z) (Nat.le_refl _) (dicN_ok hm (by rw [lM, hlen]; exact hz) ⟨xs, o', es, ep, rel, ho', hx', hd', he', hn'⟩), rfl, q _ (I.hok.fresh (Nat.le_refl _))⟩
end
end ND

/-! ## W8 -/
set_option maxRecDepth 100000
set_option maxHeartbeats 2000000
/-! W8: a dict comprehension whose keys are tuples of any depth -/
namespace ND
open PySem PySem.Spec PyProof.Rows L2 NS
theorem dn_dictSet {X : Cx} {pins : List (Addr × Obj)} {σ : L2.St} {H : Hp} {s : Shared} {E : Value → Shared → Prop} {d b : Addr} {M : List En} {k : NestedKey} {v : V} {u : Value} {Q : Unit → Shared → Prop} (hu : X.A.units + 9 < cLine) (I : Inv X pins σ H s) (e : H d = some (DicN X.prog X.w d M)) (hk : Keyed X.K H M) (kb : Kr X.K H (b, k))
    (len8 : M.length < sizeLine) (rv : RelV v u) (h : ∀ s', Inv X pins σ (upd H d (DicN X.prog X.w d (putN M k b v))) s' → Q () s') : wpAny (model X.prog X.w) X.A (dictSet d (.ref b) u) Q E s := by
  obtain ⟨xs, r, D⟩ := dn_dict I (.inl e) hk
  have zz := dn_at I (.inl e)
  refine wpAny_dictSet_heap (knd := nestedKind X.prog X.w) (hsz := by rw [← r.length]; exact zz.2.1) (show X.A.units + 8 < cLine by omega) (at_of_kr I kb) D fun h' D' hs => h _ ?_
  obtain ⟨o, es, ep, ho, hxv, hd, he, _, hn⟩ := D'
  exact d_write I (by rw [e]; exact True.intro) hs ⟨o, ho⟩ (dicN_ok zz.1 (by have := putN_len M k b v; omega) ⟨_, o, es, ep, r.put k b rv, ho, hxv, hd, he, hn⟩)
/-- {k: v for target in iter if ..} -/
def tDcN (P : Program) (w : World) (K : PySem.W.Frag) (wi : TI) (g : TG) (tt : TT) (tk tv : TE) (vs : List Nat) : TE := fun σ H Q => wi σ H fun J H1 => ∀ D, H1 D = none → ∃ W : Nat → Nat → Hp → Prop, (∃ m, W 0 m (upd H1 D (DicN P w D []))) ∧ ∀ i m H, W i m H →
  (J.stop i H ∧ Q (.ref D) H) ∨ (J.go i H ∧ ∃ Nt : Hp → Prop, (∀ H', Nt H' → ∃ m', m' < m ∧ W (i + 1) m' H') ∧ ∀ x H', J.yld i H x H' → g x (wipe σ vs) H' fun σ2 H2 => wipe σ2 vs = wipe σ vs ∧ tt σ2 H2 fun b H3 =>
    if b = true then tk σ2 H3 fun y H4 => tv σ2 H4 fun zz H5 => ∃ (M : List En) (k : NestedKey) (b : Addr), y = .ref b ∧ H5 D = some (DicN P w D M) ∧ Keyed K H5 M ∧ Kr K H5 (b, k) ∧ M.length < sizeLine ∧ Nt (upd H5 D (DicN P w D (putN M k b zz))) else Nt H3)
/-- so in the comprehension's own block -/
abbrev InB (X : Cx) (scope : Scope) (p : Cx → Prop) : Prop := ∀ (s : Shared) (H : Hp) (C : Addr) (cl : List (Str × Addr)) (fp : List Addr), p (X.blk s H scope (compEnvC scope cl C X.env) fp)
section
variable {X : Cx}
theorem dcN_core {pins : List (Addr × Obj)} {s : Shared} {σ : L2.St} {H : Hp} {Q : VK} {kx vx tg iter : Expr} {ifs : List Expr} {scope : Scope} {own : List (Str × Nat)} {ps posn : Pos} {wi : TI} {g : TG} {tt : TT} {tk tv : TE} {use : Option (Value → Sem Unit)} {Qf : Value → Shared → Prop}
    (hc : X.calm = true) (hu : X.A.units + 9 < cLine) (hN : X.N.Nodup) (I : Inv X pins σ H s) (hi : PI X tg iter wi) (blk : BlkOk X.N X.env.scope scope own)
    (hg : InB X scope fun B => PG B tg g) (ht : InB X scope fun B => PTs B ifs tt)
    (hk : InB X scope fun B => PE B kx tk)
    (he : InB X scope fun B => PE B vx tv) (hs : ∀ x, foldedSetIterable iter X.env x = pure x)
    (h : tDcN X.prog X.w X.K wi g tt tk tv (own.map (·.2)) σ H Q)
    (back : ∀ D C s' m H', Inv X pins σ H' s' → Q (.ref D) H' → s'.heap.Ns C m → FpOk X pins H' C → compPost (model X.prog X.w) X.A X.xe use Qf (.ref D) C (.ok .next) s') :
    wpAny (model X.prog X.w) X.A (comprehension (.DictComp kx vx [⟨tg, iter, ifs, 0⟩] scope ps) scope X.env posn newDict false (eval iter X.env) use) Qf X.xe s := by
  have frees : ∀ y ∈ scope.names, y.2 = .free → ∃ c, X.env.cells.lookup y.1 = some c := fun y hy e => by
    rcases blk.free y hy e with k | k
    · exact I.ok.has _ (.inl k)
    · exact I.ok.has _ (.inr k)
  refine wpAny_comprehension_free (use := use) rfl hs (closure_ok frees) blk.kind (fun y hy e => by rw [blk.uniq y hy, e])
    (thn (hi.run pins s σ H _ I h) fun xval s1 hxv => thn hxv fun ival s2 h2 => ?_)
  obtain ⟨it, fp, tn, J, H2, e, Ja, T, ta, fa, q⟩ := h2
  subst e
  refine wpAny_newObj_type (newEnv_comp ?_); skip
  generalize eD : s2.heap.objs.size = D
  have nD : H2 D = none := Ja.hok.fresh (Nat.le_of_eq eD)
  obtain ⟨W, ⟨m0, w00⟩, turn⟩ := q D nD
  -- the new list
  generalize es3 : ({ s2 with heap := s2.heap.push { cls := .type "dict", data := .dict #[] } } : Shared) = s3
  have Jb : Inv X pins σ (upd H2 D (DicN X.prog X.w D [])) s3 := by
    rw [← es3]
    refine Ja.laid (t' := s2.toks) (o := DicN X.prog X.w D []) (fun b o e => Heap.get?_push_of_some _ e) (Nat.le_of_eq eD) ?_
    rw [← eD]
    exact dn_empty s2.heap Ja.big
  have h3 : s3.heap = s2.heap.push { cls := .type "dict", data := .dict #[] } := by rw [← es3]
  have small : ∀ b ∈ fp, b < s2.heap.objs.size := fun b hb => by
    obtain ⟨o, e, _⟩ := T.obj _ _ ta b hb
    exact Heap.lt_size e
  have fb : ∀ b ∈ fp, FpOk X pins (upd H2 D (DicN X.prog X.w D [])) b ∧ b < s3.heap.objs.size := fun b hb => by
    have lt' := small b hb
    refine ⟨⟨?_, (fa b hb).2⟩, by rw [h3, Heap.size_push]; exact Nat.lt_succ_of_lt lt'⟩
    rw [upd_ne (by rw [← eD]; exact Nat.ne_of_lt lt')]
    exact (fa b hb).1
  have tb : tn 0 s3.heap := T.keep _ _ _ ta fun b _ o e => by rw [h3]; exact Heap.get?_push_of_some _ e
  have Jc := block_start Jb blk hN fb
  have pg := hg s3 (upd H2 D (DicN X.prog X.w D [])) s3.heap.objs.size (cellsFrom (s3.heap.objs.size + 1) scope.names (cloFrom X.env.cells scope.names [])) fp
  have pt := ht s3 (upd H2 D (DicN X.prog X.w D [])) s3.heap.objs.size (cellsFrom (s3.heap.objs.size + 1) scope.names (cloFrom X.env.cells scope.names [])) fp
  have pk := hk s3 (upd H2 D (DicN X.prog X.w D [])) s3.heap.objs.size (cellsFrom (s3.heap.objs.size + 1) scope.names (cloFrom X.env.cells scope.names [])) fp
  have pe := he s3 (upd H2 D (DicN X.prog X.w D [])) s3.heap.objs.size (cellsFrom (s3.heap.objs.size + 1) scope.names (cloFrom X.env.cells scope.names [])) fp
  show codeAny _ _ (.compStart (.DictComp kx vx [⟨tg, iter, ifs, 0⟩] scope ps) 0 (.ref it) (.ref D) (compEnvC scope (cellsFrom (s3.heap.objs.size + 1) scope.names (cloFrom X.env.cells scope.names [])) s3.heap.objs.size X.env)) (compPost (model X.prog X.w) X.A X.xe use Qf (.ref D) s3.heap.objs.size) { s3 with heap := pushCells (s3.heap.push { cls := .type "dict", data := .dict #[] }) scope.names }
  have nfp : ∀ b ∈ fp, (upd H2 D (DicN X.prog X.w D [])) b = none := fun b hb => (fb b hb).1.1
  generalize ece : compEnvC scope (cellsFrom (s3.heap.objs.size + 1) scope.names (cloFrom X.env.cells scope.names [])) s3.heap.objs.size X.env = ce at Jc pg pt pk pe ⊢
  have locs : ce.locals = s3.heap.objs.size := by subst ece; rfl
  generalize eH3 : upd H2 D (DicN X.prog X.w D []) = H3 at Jb Jc pg pt pk pe w00 nfp fb
  generalize es4 : ({ s3 with heap := pushCells (s3.heap.push { cls := .type "dict", data := .dict #[] }) scope.names } : Shared) = s4 at Jc ⊢
  have tc : tn 0 s4.heap := T.keep _ _ _ tb fun b _ o e => by rw [← es4]; exact pushCells_keeps _ _ _ _ (Heap.get?_push_of_some _ e)
  have stands : ∀ {σ' : L2.St} {H' : Hp} {s' : Shared}, Inv (X.blk s3 H3 scope ce fp) [] σ' H' s' → (∀ b ∈ fp, H' b = none) → ∀ b ∈ fp, FpOk (X.blk s3 H3 scope ce fp) [] H' b := fun {σ' H' s'} I' mn b hb =>
    ⟨mn b hb, (I'.ok.exf b hb).1, I'.ok.exfs b hb, .inl hb, fun x c e => (I'.ok.exf b hb).2 x c e, fun p hp => absurd (show p ∈ ([] : List (Addr × Obj)) ++ [] from hp) (by simp)⟩
  have turns : codeAny (model X.prog X.w) X.A (.compLoop (.DictComp kx vx [⟨tg, iter, ifs, 0⟩] scope ps) 0 (.ref it) (.ref D) ce) (compPost (model X.prog X.w) X.A X.xe use Qf (.ref D) s3.heap.objs.size) s4 := by
    refine compLoop_anyD (fun n s' => ∃ i H', Inv (X.blk s3 H3 scope ce fp) [] (wipe σ (own.map (·.2))) H' s' ∧ tn i s'.heap ∧ (∀ b ∈ fp, H' b = none) ∧ W i n H') ?_ m0 ⟨0, H3, Jc, tc, nfp, w00⟩
    rintro n v5 ⟨i, G5, Jd, td, n5, w5⟩
    rcases turn i n G5 w5 with ⟨stop, qq⟩ | ⟨go, Nt, nxt, step⟩
    · have td := T.done (X.blk s3 H3 scope ce fp) rfl rfl rfl hc i [] v5 _ G5 (fun _ _ => False) Jd (stands Jd n5) td stop
      refine thnF td fun r v6 ⟨hr, Jk⟩ => ?_
      subst hr
      -- back in the def's context
      have Je : Inv X pins σ G5 v6 := Jb.call' (ch := fp) Jk.os Jk.base Jk.hok Jk.bare fun b hb => ⟨(fb b hb).1.2.2.2.1, (fb b hb).1.2.1, (fb b hb).1.2.2.2.2.1, (fb b hb).1.2.2.2.2.2⟩
      have nC : G5 s3.heap.objs.size = none := by
        have zz : G5 ce.locals = none := Jk.free
        rw [locs] at zz
        exact zz
      obtain ⟨m, mn, _⟩ := Jk.loc
      have mn : v6.heap.Ns ce.locals m := mn
      rw [locs] at mn
      exact back D s3.heap.objs.size v6 m G5 Je qq mn (Jb.fpOk (Nat.le_refl _) nC)
    · have ti := T.item (X.blk s3 H3 scope ce fp) rfl rfl rfl hc i [] v5 _ G5 (fun _ _ => False) Jd (stands Jd n5) td go
      refine thnF ti fun r v6 ⟨u, hr, h6⟩ => ?_
      subst hr
      refine thnF h6 fun _ v7 ⟨x, G7, Je, r7, y7, te, n7⟩ => ?_
      have Jl := Je.pinned (stands Je n7) (T.obj _ _ te)
      refine thnF (pg.run _ v7 _ G7 x u _ Jl r7 (step x G7 y7)) fun _ v8 ⟨σ8, G8, Jf, ew, qf⟩ => ?_
      refine thnF (pt.run _ v8 σ8 G8 _ Jf qf) fun b v9 ⟨G9, Jg, qg⟩ => ?_
      -- the turn's end
      have ends : ∀ {s' : Shared} {H' : Hp}, Inv (X.blk s3 H3 scope ce fp) ([] ++ pinsAt fp v7.heap) σ8 H' s' → Nt H' → ∃ m, m < n ∧ ∃ i H', Inv (X.blk s3 H3 scope ce fp) [] (wipe σ (own.map (·.2))) H' s' ∧ tn i s'.heap ∧ (∀ b ∈ fp, H' b = none) ∧ W i m H' := fun {s' H'} I' nx => by
        obtain ⟨m', hm, w'⟩ := nxt H' nx
        have pinned' : ∀ b ∈ fp, ∀ o, v7.heap.get? b = some o → s'.heap.get? b = some o ∧ H' b = none := fun b hb o e =>
          let zz := I'.pin (b, o) (List.mem_append_right _ (List.mem_append_right _ (mem_pinsAt hb e)))
          ⟨zz.1, zz.2.1⟩
        have len8 : (wipe σ (own.map (·.2))).length = σ8.length := by rw [← ew, wipe_length]
        refine ⟨m', hm, i + 1, H', (I'.unpinned (pins := [])).weak len8 (fun j v e => ?_), T.keep _ _ _ te fun b hb o e => (pinned' b hb o e).1, fun b hb => ?_, w'⟩
        · rw [← ew] at e
          exact (wipe_some e).1
        · obtain ⟨o, e, _⟩ := T.obj _ _ te b hb
          exact (pinned' b hb o e).2
      cases b with
      | false =>
        simp only [Bool.false_eq_true, if_false] at qg ⊢
        exact ends Jg qg
      | true =>
        simp only [if_true] at qg ⊢
        refine thnF (pk.run _ v9 σ8 G9 _ Jg qg) fun zz v10 ⟨yk, G10, Jh, r10, qh⟩ => ?_
        refine thnF (pe.run _ v10 σ8 G10 _ Jh qh) fun z2 v11 ⟨yv, G11, Ji, r11, M, k, b2, ek, hD11, kM, kb, hz11, nx⟩ => ?_
        subst ek
        rw [show zz = Value.ref b2 from r10]
        exact dn_dictSet (X := X.blk s3 H3 scope ce fp) hu Ji hD11 kM kb hz11 r11 fun v12 Jj => ends Jj nx
  exact codeAny_compStart_dict turns (T.self X.A 0 _ _ _ tc turns)
theorem pe_dcN {kx vx tg iter : Expr} {ifs : List Expr} {scope : Scope} {own : List (Str × Nat)} {ps : Pos} {wi : TI} {g : TG} {tt : TT} {tk tv : TE} (hc : X.calm = true) (hu : X.A.units + 9 < cLine) (hN : X.N.Nodup) (hi : PI X tg iter wi) (blk : BlkOk X.N X.env.scope scope own)
    (hg : InB X scope fun B => PG B tg g) (ht : InB X scope fun B => PTs B ifs tt)
    (hk : InB X scope fun B => PE B kx tk)
    (he : InB X scope fun B => PE B vx tv) (hs : ∀ x, foldedSetIterable iter X.env x = pure x := by intro _; rfl) :
    PE X (.DictComp kx vx [⟨tg, iter, ifs, 0⟩] scope ps) (tDcN X.prog X.w X.K wi g tt tk tv (own.map (·.2))) := by
  refine ⟨fun pins s σ H Q I hq => ?_⟩
  rw [arm_eval_DictComp]
  refine dcN_core hc hu hN I hi blk hg ht hk he hs hq fun D C s' m H' I' q mn f => ⟨m, mn, fun h'' sb => ?_⟩
  obtain ⟨f0, f1, fa, fb, f4, f5⟩ := f
  exact ⟨.ref D, H', I'.turned (t' := s'.toks) (fun b o hb e => (sb.2 b hb).trans e) f0 f1 fb f4 f5, rfl, q⟩
end
end ND

/-! ## W9 -/
set_option maxRecDepth 100000
set_option maxHeartbeats 2000000
/-! W9: a display of such a dict -/
namespace ND
open PySem PySem.Spec PyProof.Rows L2 NS PySem.W
/-- {k: v, ..}: the new dict stands empty while the pairs are made -/
def tDispN (P : Program) (w : World) (K : PySem.W.Frag) (trs : List (TE × TE)) : TE := fun σ H Q => ∀ p, H p = none → tPairs trs σ (upd H p (DicN P w p [])) fun ps H2 => H2 p = some (DicN P w p []) ∧
  ∃ M : List En, ps = M.map pairN ∧ Keyed K H2 M ∧ (M.map (·.1)).Nodup ∧ M.length ≤ 15 ∧ Q (.ref p) (upd H2 p (DicN P w p M))
theorem carried {X : Cx} {pins : List (Addr × Obj)} {σ : L2.St} {H : Hp} {s : Shared} (I : Inv X pins σ H s) : ∀ {M : List En} {us : List (Value × Value)}, Keyed X.K H M → VV (M.map pairN) us → ∃ xs : List Re, CarriesH (nestedKind X.prog X.w) s.heap us xs ∧ KN M xs
  | [], _, _, r => by
    cases r
    exact ⟨[], True.intro, .nil⟩
  | e :: M, _, hk, r => by
    rw [List.map_cons] at r
    cases r with
    | @cons _ u _ us h t =>
      obtain ⟨xs, c, k⟩ := carried I (fun e' h' => hk e' (List.mem_cons_of_mem _ h')) t
      obtain ⟨u1, u2⟩ := u
      obtain ⟨h1, h2⟩ := h
      exact ⟨(e.1, e.2.1, u2) :: xs, ⟨h1, rfl, at_of_kr I (hk e List.mem_cons_self), c⟩, .cons ⟨rfl, rfl, h2⟩ k⟩
theorem pe_dispN {X : Cx} {pos : Pos} {keys : List (Option Expr)} {values : List Expr} {trs : List (TE × TE)} (hu : X.A.units + 9 < cLine) (h : PPs X pos keys values trs) (hall : keys.all (·.isSome) = true) (hl : keys.length = values.length) (h0 : keys ≠ []) (h15 : keys.length ≤ 15) :
    PE X (.Dict keys values pos) (tDispN X.prog X.w X.K trs) := by
  refine ⟨fun pins s σ H Q I q => ?_⟩
  have fresh := I.hok.fresh (Nat.le_refl s.heap.objs.size)
  have I1 := I.laid (a := s.heap.objs.size) (o := DicN X.prog X.w s.heap.objs.size []) (h' := s.heap.push { cls := .type "dict", data := .dict #[] }) (t' := s.toks) (fun _ _ q => Heap.get?_push_of_some _ q) (Nat.le_refl _) (dn_empty s.heap I.big)
  have hn := pairTrees_length keys values X.env pos hall hl
  have some_ : pairTrees keys values X.env pos ≠ [] := fun e => by
    rw [e] at hn
    exact h0 (List.length_eq_zero_iff.mp hn.symm)
  rw [arm_eval_Dict, zip_pairTrees keys values X.env pos hall hl, dictDisplay_pairs _ some_ (by rw [hn]; omega)]
  refine wpAny_bind (wpAny_standAt (wpAny_bind (wpAny_subDictH (knd := nestedKind X.prog X.w) (Q := fun d s' => wpAny (model X.prog X.w) X.A (pure (Value.ref d)) (EP X pins σ Q) X.xe s') (show X.A.units + 8 < cLine by omega) (by rw [hn]; exact h15) (thn (h.run pins _ σ _ _ I1 (q _ fresh)) fun us s2 ⟨ps, H2, I2, rel, e, M, ep, hk, nd, few, q2⟩ => ?_))))
  subst ep
  obtain ⟨xs, c, k⟩ := carried I2 hk rel
  obtain ⟨xs0, r0, D0⟩ := dn_dict I2 (.inl e) (fun e' h' => nomatch h')
  cases r0
  refine ⟨xs, c, D0, fun h' tk D sb => wpAny_pure ⟨.ref s.heap.objs.size, _, ?_, rfl, q2⟩⟩
  rw [storedAllH_nil_of_nodup xs (by rw [← k.keys]; exact nd)] at D
  obtain ⟨o, es, ep, ho, hx, hd, he, _, hn2⟩ := D
  have z := dn_at I2 (.inl e)
  exact d_write (t' := tk) I2 (by rw [e]; exact True.intro) sb ⟨o, ho⟩ (dicN_ok z.1 (by rw [sizeLine_eq]; omega) ⟨xs, o, es, ep, k, ho, hx, hd, he, hn2⟩)
end ND

/-! ## F0 -/
set_option maxRecDepth 100000
set_option maxHeartbeats 2000000
namespace K0
open PySem L2 NS
/-! ### a comprehension that makes objects -/
theorem lc_made {J : It} {n : Nat} {G : Hp → Prop} {Y : Nat → Hp → V → Hp → Prop} (w : Walk J n G Y) {g : TG} {te : TE} {vs : List Nat} {σ : L2.St} {H1 : Hp} {D : Addr} {Qd : Hp → Prop} (R : Nat → V → Hp → Prop)
    (mono : ∀ i y H H', R i y H → Kd D H H' → R i y H') (hn : n < sizeLine) (hD : H1 D = none) (hG : ∀ H, Same H1 H → G H)
    (hs : ∀ i x H H', i < n → Same H1 H → (∃ acc, H D = some (.lst acc)) → Y i H x H' → g x (wipe σ vs) H' fun σ2 H2 => wipe σ2 vs = wipe σ vs ∧ ∀ (Q : V → Hp → Prop), (∀ y H4, Same H H4 → R i y H4 → Q y H4) → te σ2 H2 Q)
    (gm : ∀ x σ H (P R : L2.St → Hp → Prop), (∀ σ2 H2, P σ2 H2 → R σ2 H2) → g x σ H P → g x σ H R)
    (hd : ∀ H acc, Same H1 H → H D = some (.lst acc) → acc.length = n → (∀ i y, acc[i]? = some y → R i y H) → Qd H) :
    ∃ W : Nat → Nat → Hp → Prop, (∃ m, W 0 m (upd H1 D (.lst []))) ∧ ∀ i m H, W i m H →
      (J.stop i H ∧ Qd H) ∨ (J.go i H ∧ ∃ Nx : Hp → Prop, (∀ H', Nx H' → ∃ m', m' < m ∧ W (i + 1) m' H') ∧ ∀ x H', J.yld i H x H' → g x (wipe σ vs) H' fun σ2 H2 => wipe σ2 vs = wipe σ vs ∧ tYes σ2 H2 fun b H3 =>
        if b = true then te σ2 H3 fun y H4 => ∃ acc, H4 D = some (.lst acc) ∧ acc.length < sizeLine ∧ Nx (upd H4 D (.lst (acc ++ [y]))) else Nx H3) := by
  refine lc_it w (fun i H => Same H1 H ∧ ∃ acc, H D = some (.lst acc) ∧ acc.length = i ∧ ∀ j y, acc[j]? = some y → R j y H) ⟨Same.new _ hD, [], upd_same, rfl, fun j y z => by simp at z⟩ (fun i H _ p => hG H p.1) (fun i x H H' hi p y => ?_) (fun H p => ?_)
  · obtain ⟨p1, acc, p2, p3, p4⟩ := p
    refine gm _ _ _ _ _ (fun σ2 H2 q => ⟨q.1, ?_⟩) (hs i x H H' hi p1 ⟨acc, p2⟩ y)
    dsimp only [tYes]
    rw [if_pos rfl]
    refine q.2 _ fun y H4 s4 r4 => ⟨acc, s4 _ _ p2, by omega, ?_, acc ++ [y], upd_same, by rw [List.length_append, p3]; rfl, ?_⟩
    · exact fun b o e => by rw [upd_ne (ne_of_none e hD)]; exact s4 _ _ (p1 _ _ e)
    · intro j u hu
      have kd : Kd D H4 (upd H4 D (.lst (acc ++ [y]))) := fun b o nb e => by rw [upd_ne nb]; exact e
      by_cases c : j < acc.length
      · rw [List.getElem?_append_left c] at hu
        exact mono _ _ _ _ (mono _ _ _ _ (p4 j u hu) fun b o _ e => s4 _ _ e) kd
      · have c2 : j = acc.length := by
          have z := (List.getElem?_eq_some_iff.mp hu).1
          rw [List.length_append] at z
          simp at z
          omega
        rw [c2, List.getElem?_append_right (Nat.le_refl _), Nat.sub_self] at hu
        obtain rfl : y = u := Option.some.inj hu
        rw [c2, p3]
        exact mono _ _ _ _ r4 kd
  · obtain ⟨p1, acc, p2, p3, p4⟩ := p
    exact hd H acc p1 p2 p3 p4
theorem gPair_mono {K : PySem.W.Frag} {i j : Nat} : ∀ x σ H (P R : L2.St → Hp → Prop), (∀ σ2 H2, P σ2 H2 → R σ2 H2) → gTup K 2 (gCons (gName i) (gCons (gName j) gNil)) x σ H P → gTup K 2 (gCons (gName i) (gCons (gName j) gNil)) x σ H R :=
  fun x σ H P R h ⟨a, xs, e1, e2, e3, v, r, e4, v2, r2, e5, e6, p⟩ => ⟨a, xs, e1, e2, e3, v, r, e4, v2, r2, e5, e6, h _ _ p⟩
/-- the keys ascend, each under the next -/
def ascB : List NestedKey → Bool
  | a :: b :: r => ltK a b && ascB (b :: r)
  | _ => true
/-- Python has an order of each two neighbours -/
def okAdj : List NestedKey → Prop
  | a :: b :: r => okK a b = true ∧ okAdj (b :: r)
  | _ => True
theorem ascB_at : ∀ ks : List NestedKey, ((List.range (ks.length - 1)).map fun i => ltK (ks.getD i .none) (ks.getD (i + 1) .none)).all id = ascB ks
  | [] => rfl
  | [a] => rfl
  | a :: b :: r => by
    have ih := ascB_at (b :: r)
    have e : (a :: b :: r).length - 1 = ((b :: r).length - 1) + 1 := by simp
    rw [e, List.range_succ_eq_map, List.map_cons, List.all_cons, List.map_map]
    show (ltK a b && _) = (ltK a b && ascB (b :: r))
    rw [← ih]
    rfl
theorem okAdj_at : ∀ (ks : List NestedKey) (i : Nat), okAdj ks → i + 1 < ks.length → okK (ks.getD i .none) (ks.getD (i + 1) .none) = true
  | [], i, _, h => absurd h (Nat.not_lt_zero _)
  | [a], i, _, h => by simp at h
  | a :: b :: r, 0, o, _ => o.1
  | a :: b :: r, i + 1, o, h => okAdj_at (b :: r) i o.2 (by simpa using h)
theorem kvAll_at {K : PySem.W.Frag} {H : Hp} : ∀ {vs : List V} {ks : List NestedKey}, KvAll K H vs ks → ∀ i x, vs[i]? = some x → Kv K H x (ks.getD i .none)
  | _, _, .nil, i, x, h => by simp at h
  | _, _, .cons (k := k) h1 h2, 0, x, h => by
    obtain rfl := Option.some.inj h
    exact h1
  | _, _, .cons h1 h2, i + 1, x, h => kvAll_at h2 i x h
theorem kvAll_len {K : PySem.W.Frag} {H : Hp} : ∀ {vs : List V} {ks : List NestedKey}, KvAll K H vs ks → vs.length = ks.length
  | _, _, .nil => rfl
  | _, _, .cons h1 h2 => by rw [List.length_cons, List.length_cons, kvAll_len h2]
theorem kvAll_same {K : PySem.W.Frag} {H H' : Hp} (s : Same H H') {vs : List V} {ks : List NestedKey} (h : KvAll K H vs ks) : KvAll K H' vs ks := kvs_same (fun _ _ q => seqT s q) _ _ h
end K0

/-! ## F2 -/
set_option maxRecDepth 100000
set_option maxHeartbeats 2000000
namespace K0
open PySem L2 NS ND RZ
/-! ### products, as data -/
abbrev Tri := Str × List Int × Int
abbrev Pr := List Tri
def RowA (H : Hp) (a : Addr) (r : List Int) : Prop := H a = some (.tup (r.map V.int))
def TriA (H : Hp) (a : Addr) (t : Tri) : Prop := ∃ b, H a = some (.tup [.str t.1, .ref b, .int t.2.2]) ∧ RowA H b t.2.1
/-- a table and a row -/
abbrev Ent := Str × List Int
def EntA (H : Hp) (a : Addr) (e : Ent) : Prop := ∃ b, H a = some (.tup [.str e.1, .ref b]) ∧ RowA H b e.2
def ProA (H : Hp) (a : Addr) (p : Pr) : Prop := ∃ ts, H a = some (.tup (ts.map V.ref)) ∧ Paired (fun t u => TriA H t u) ts p
def entT (t : Tri) : Ent := (t.1, t.2.1)
theorem TriA.same {H H' : Hp} {a : Addr} {t : Tri} (h : TriA H a t) (s : Same H H') : TriA H' a t := by
  obtain ⟨b, h1, h2⟩ := h
  exact ⟨b, s _ _ h1, s _ _ h2⟩
theorem EntA.same {H H' : Hp} {a : Addr} {e : Ent} (h : EntA H a e) (s : Same H H') : EntA H' a e := by
  obtain ⟨b, h1, h2⟩ := h
  exact ⟨b, s _ _ h1, s _ _ h2⟩
theorem ProA.same {H H' : Hp} {a : Addr} {p : Pr} (h : ProA H a p) (s : Same H H') : ProA H' a p := by
  obtain ⟨ts, h1, h2⟩ := h
  exact ⟨ts, s _ _ h1, Paired.mapP h2 fun _ _ x => x.same s⟩
/-- what changes at an address that is no tuple -/
theorem TriA.kd {H H' : Hp} {d a : Addr} {t : Tri} (h : TriA H a t) (hd : ∀ xs, H d ≠ some (.tup xs)) (k : Kd d H H') : TriA H' a t := by
  obtain ⟨b, h1, h2⟩ := h
  exact ⟨b, k _ _ (fun z => hd _ (z ▸ h1)) h1, k _ _ (fun z => hd _ (z ▸ h2)) h2⟩
theorem EntA.kd {H H' : Hp} {d a : Addr} {e : Ent} (h : EntA H a e) (hd : ∀ xs, H d ≠ some (.tup xs)) (k : Kd d H H') : EntA H' a e := by
  obtain ⟨b, h1, h2⟩ := h
  exact ⟨b, k _ _ (fun z => hd _ (z ▸ h1)) h1, k _ _ (fun z => hd _ (z ▸ h2)) h2⟩
theorem ProA.kd {H H' : Hp} {d a : Addr} {p : Pr} (h : ProA H a p) (hd : ∀ xs, H d ≠ some (.tup xs)) (k : Kd d H H') : ProA H' a p := by
  obtain ⟨ts, h1, h2⟩ := h
  exact ⟨ts, k _ _ (fun z => hd _ (z ▸ h1)) h1, Paired.mapP h2 fun _ _ x => x.kd hd k⟩
/-! their keys -/
def kR (r : List Int) : NestedKey := .tup (r.map NestedKey.num)
def kE (e : Ent) : NestedKey := .tup [.text e.1, kR e.2]
def kT (t : Tri) : NestedKey := .tup [.text t.1, kR t.2.1, .num t.2.2]
def kP (p : Pr) : NestedKey := .tup (p.map kT)
theorem depth_nums : ∀ r : List Int, NestedKey.depthAll (r.map NestedKey.num) = 0
  | [] => rfl
  | _ :: r => by rw [List.map_cons, NestedKey.depthAll, depth_nums r]; rfl
theorem kR_depth (r : List Int) : (kR r).depth = 1 := by simp [kR, NestedKey.depth, depth_nums]
theorem kE_depth (e : Ent) : (kE e).depth = 2 := by simp [kE, NestedKey.depth, NestedKey.depthAll, kR_depth]
theorem kT_depth (t : Tri) : (kT t).depth = 2 := by simp [kT, NestedKey.depth, NestedKey.depthAll, kR_depth]
theorem kP_depth (p : Pr) : (kP p).depth ≤ 3 := by
  have z : ∀ p : Pr, NestedKey.depthAll (p.map kT) ≤ 2 := by
    intro p
    induction p with
    | nil => exact Nat.zero_le _
    | cons t p ih => rw [List.map_cons, NestedKey.depthAll, kT_depth]; omega
  have := z p
  simp only [kP, NestedKey.depth]
  omega
theorem nums_inj : ∀ {l m : List Int}, l.map NestedKey.num = m.map NestedKey.num → l = m
  | [], [], _ => rfl
  | [], _ :: _, h => by cases h
  | _ :: _, [], h => by cases h
  | a :: l, b :: m, h => by
    rw [List.map_cons, List.map_cons] at h
    injection h with h1 h2
    injection h1 with h1
    rw [h1, nums_inj h2]
theorem kR_inj {r r' : List Int} (h : kR r = kR r') : r = r' := by
  injection h with h
  exact nums_inj h
theorem kE_inj {e e' : Ent} (h : kE e = kE e') : e = e' := by
  unfold kE at h
  injection h with h
  injection h with h1 h2
  injection h2 with h2 _
  injection h1 with h1
  exact Prod.ext h1 (kR_inj h2)
theorem kT_inj {t t' : Tri} (h : kT t = kT t') : t = t' := by
  unfold kT at h
  injection h with h
  injection h with h1 h2
  injection h2 with h2 h3
  injection h3 with h3 _
  injection h1 with h1
  injection h3 with h3
  exact Prod.ext h1 (Prod.ext (kR_inj h2) h3)
theorem kPs_inj : ∀ {p q : Pr}, p.map kT = q.map kT → p = q
  | [], [], _ => rfl
  | [], _ :: _, h => by cases h
  | _ :: _, [], h => by cases h
  | a :: p, b :: q, h => by
    rw [List.map_cons, List.map_cons] at h
    injection h with h1 h2
    rw [kT_inj h1, kPs_inj h2]
theorem kP_inj {p q : Pr} (h : kP p = kP q) : p = q := by
  injection h with h
  exact kPs_inj h
theorem ok_nums : ∀ l m : List Int, okKs (l.map NestedKey.num) (m.map NestedKey.num) = true
  | [], _ => by simp [okKs]
  | _ :: _, [] => by simp [okKs]
  | a :: l, b :: m => by
    rw [List.map_cons, List.map_cons, okKs, ok_nums l m]
    simp [okK]
theorem ok_row (r r' : List Int) : okK (kR r) (kR r') = true := by simp [kR, okK, ok_nums]
theorem ok_ent (e e' : Ent) : okK (kE e) (kE e') = true := by simp [kE, okK, okKs, ok_row]
theorem ok_tri (t t' : Tri) : okK (kT t) (kT t') = true := by simp [kT, okK, okKs, ok_row]
theorem ok_tris : ∀ p q : Pr, okKs (p.map kT) (q.map kT) = true
  | [], _ => by simp [okKs]
  | _ :: _, [] => by simp [okKs]
  | a :: p, b :: q => by
    rw [List.map_cons, List.map_cons, okKs, ok_tris p q, ok_tri]
    simp
theorem ok_pro (p q : Pr) : okK (kP p) (kP q) = true := by simp [kP, okK, ok_tris]
theorem nums_kv {K : PySem.W.Frag} {H : Hp} : ∀ l : List Int, KvAll K H (l.map V.int) (l.map NestedKey.num)
  | [] => .nil
  | _ :: l => .cons (.int _) (nums_kv l)
theorem RowA.kv {K : PySem.W.Frag} {H : Hp} {a : Addr} {r : List Int} (h : RowA H a r) : Kv K H (.ref a) (kR r) := .tup (SqT.of h) (nums_kv r)
theorem EntA.kv {K : PySem.W.Frag} {H : Hp} {a : Addr} {e : Ent} (h : EntA H a e) : Kv K H (.ref a) (kE e) := by
  obtain ⟨b, h1, h2⟩ := h
  exact .tup (SqT.of h1) (.cons (.str _) (.cons h2.kv .nil))
theorem TriA.kv {K : PySem.W.Frag} {H : Hp} {a : Addr} {t : Tri} (h : TriA H a t) : Kv K H (.ref a) (kT t) := by
  obtain ⟨b, h1, h2⟩ := h
  exact .tup (SqT.of h1) (.cons (.str _) (.cons h2.kv (.cons (.int _) .nil)))
theorem tris_kv {K : PySem.W.Frag} {H : Hp} : ∀ {ts : List Addr} {p : Pr}, Paired (fun t u => TriA H t u) ts p → KvAll K H (ts.map V.ref) (p.map kT)
  | _, _, .nil => .nil
  | _, _, .cons h r => .cons h.kv (tris_kv r)
theorem ents_kv {K : PySem.W.Frag} {H : Hp} : ∀ {ts : List Addr} {es : List Ent}, Paired (fun t u => EntA H t u) ts es → KvAll K H (ts.map V.ref) (es.map kE)
  | _, _, .nil => .nil
  | _, _, .cons h r => .cons h.kv (ents_kv r)
theorem ProA.kr {K : PySem.W.Frag} {H : Hp} {a : Addr} {p : Pr} (h : ProA H a p) : Kr K H (a, kP p) := by
  obtain ⟨ts, h1, h2⟩ := h
  exact ⟨.tup (SqT.of h1) (tris_kv h2), by have := kP_depth p; show (kP p).depth ≤ 8; omega⟩
theorem EntA.kr {K : PySem.W.Frag} {H : Hp} {a : Addr} {e : Ent} (h : EntA H a e) : Kr K H (a, kE e) := ⟨h.kv, by show (kE e).depth ≤ 8; rw [kE_depth]; decide⟩
/-! ### is_ascending, of a list -/
abbrev sIsAs : Stmt := top 14
def spIsAs (K : PySem.W.Frag) : Sp := fun vs H Q _ => ∃ (a : Addr) (xs : List V) (ks : List NestedKey), vs = [.ref a] ∧ SqL K H a xs ∧ xs.length ≤ 1000 ∧ KvAll K H xs ks ∧ okAdj ks ∧ (∀ k ∈ ks, k.depth ≤ 8) ∧ ∀ H', Same H H' → Q (.bl (ascB ks)) H'
theorem seqL {K : PySem.W.Frag} {H H' : Hp} {a : Addr} {xs : List V} (e : Same H H') (h : SqL K H a xs) : SqL K H' a xs := by
  rcases h with (h | ⟨o, h⟩) | h
  · exact .inl (.inl (e _ _ h))
  · exact .inl (.inr ⟨o, e _ _ h⟩)
  · exact .inr h
structure TZ (K : PySem.W.Frag) (mg : Str → Option Value) : Prop where
  zip : mg "zip" = none
  all : mg "all" = none
section
variable {P : Program} {w : World} {K : PySem.W.Frag} {mg : Str → Option Value} {base : Heap}
abbrev nIsAs : List Str := ["values", "one", "other"]
theorem scIsAs : FnScope nIsAs ["values"] (defScope sIsAs) := ⟨rfl, rfl, rfl, by decide +kernel, rfl, by decide +kernel, by decide +kernel⟩
theorem ok_isAs {f : Addr} {fd : FuncData} (F : Fun K "is_ascending" "is_ascending" sIsAs f fd) (T : TZ K mg) : FnOk P w K mg base CX0 1 f fd ["values"] (spIsAs K) := by
  refine F.ok scIsAs (fun vs H Q E h => ?_) (fun cdv A outer s H vs Q E hr h => ?_)
  · obtain ⟨a, xs, ks, rfl, _⟩ := h
    rfl
  · obtain ⟨a, xs, ks, rfl, ha, few, kv, ok, dp, k⟩ := h
    refine ⟨_, pss_one (ps_ret (pe_callB (cr_all rfl) (by rfl) T.all (by decide +kernel) (pa_cons (pe_lc (own := [("one", 1), ("other", 2)]) (g := gTup K 2 (gCons (gName 1) (gCons (gName 2) gNil))) (tt := tYes) rfl scIsAs.nd
      (pi_zipA (by rfl) T.zip (pa_cons (pv 0) (pa_cons (pe_slice sl_list (pv 0) (po_some pe_int) po_none) pa_nil)))
      (blkOk_by (own := [("one", 1), ("other", 2)]) (N := nIsAs) (sc := defScope sIsAs) (by decide +kernel))
      (fun _ _ _ _ _ => pg_tup rfl (pgs_cons (pg_name (i := 1) scIsAs.nd rfl (Or.inl rfl)) (pgs_cons (pg_name (i := 2) scIsAs.nd rfl (Or.inl rfl)) pgs_nil))) (fun _ _ _ _ _ => pts_nil)
      (fun _ _ _ _ _ => pe_cmpR (r := rLtN K) (op_ltN hr.units) (pv 1) (pv 2) (nomark _))) pa_nil))), ?_⟩
    have n1 : xs.length = ks.length := kvAll_len kv
    refine ⟨_, rfl, _, rfl, ⟨1, rfl, ⟨a, xs, rfl, ha, fun b hb => ?_⟩⟩⟩
    have ec : cutV xs (some 1) none = xs.drop 1 := by
      unfold cutV
      have z : HT.sIx xs.length 0 (some ((1 : Nat) : Int)) = min 1 xs.length := HT.sIx_nat _ _ 1
      have z2 : HT.sIx xs.length 0 (some 1) = min 1 xs.length := z
      rw [z2, HT.sIx_none]
      cases xs with
      | nil => rfl
      | cons x r =>
        have m : min 1 (x :: r).length = 1 := by simp
        rw [m]
        exact List.take_of_length_le (by rw [List.length_drop]; exact Nat.le_refl _)
    rw [ec]
    have s1 : Same H (upd H b (.lst (xs.drop 1))) := Same.new _ hb
    have hl : (xs.drop 1).length = xs.length - 1 := List.length_drop
    refine ⟨a, b, xs, xs.drop 1, rfl, .inl ⟨seqL s1 ha, SqL.of upd_same, fun D hD => lc_pure (f := fun i => .bl (ltK (ks.getD i .none) (ks.getD (i + 1) .none))) (walk_zip (n := xs.length - 1) (by omega)) (by rw [sizeLine_eq]; omega) hD
      (fun H1 s2 => ⟨seqL (Same.tr s1 s2) ha, SqL.of (s2 _ _ upd_same)⟩) ?_ gPair_mono ?_⟩⟩
    · rintro i x H2 H3 hi s2 ⟨T, y, z, rfl, hT, rfl, hy, hz⟩
      have hz' : xs[i + 1]? = some z := by
        have q : (xs.drop 1)[i]? = some z := hz
        rw [List.getElem?_drop, Nat.add_comm] at q
        exact q
      refine ⟨T, _, rfl, SqT.of upd_same, rfl, _, _, rfl, _, _, rfl, rfl, rfl, fun Q' q => ⟨_, rfl, _, rfl, ?_⟩⟩
      have sT : Same H2 (upd H2 T (.tup [y, z])) := Same.new _ hT
      have s3 : Same H (upd H2 T (.tup [y, z])) := Same.tr s1 (Same.tr s2 sT)
      have kv2 := kvAll_same s3 kv
      exact ⟨_, _, kvAll_at kv2 i y hy, kvAll_at kv2 (i + 1) z hz', okAdj_at ks i ok (by omega), dp _ (by
        have : i < ks.length := by omega
        have e : ks.getD i .none = ks[i] := by simp [List.getD, this]
        rw [e]
        exact List.getElem_mem this), q _ sT⟩
    · intro H2 s2 hD2
      refine ⟨D, (List.range (xs.length - 1)).map fun i => ltK (ks.getD i .none) (ks.getD (i + 1) .none), rfl, ?_, ?_⟩
      · rw [List.map_map]
        exact SqL.of hD2
      · rw [n1, ascB_at]
        exact k H2 (Same.tr s1 s2)
end
end K0

/-! ## F3 -/
set_option maxRecDepth 100000
set_option maxHeartbeats 2000000
namespace K0
open PySem L2 NS ND RZ
/-! ### _is_product -/
/-- whether plain data is a triple -/
inductive TrD (H : Hp) : V → Bool → Prop
  | other {v : V} (d : Da H v) (n : isTupV H v = false) : TrD H v false
  | size {a : Addr} {xs : List V} (h : H a = some (.tup xs)) (n : xs.length ≠ 3) : TrD H (.ref a) false
  | tri {a : Addr} {x y z : V} (h : H a = some (.tup [x, y, z])) (dx : Da H x) (sx : Sz x) (dy : Da H y) (ty : Tu H y) (dz : Da H z) : TrD H (.ref a) ((nameV x && onTup H rowL y) && tmV z)
theorem isTup_up {H H' : Hp} {v : V} (d : Da H v) (s : Same H H') : isTupV H' v = isTupV H v := by
  cases d with
  | non => rfl
  | bl b => rfl
  | int i => rfl
  | str x => rfl
  | lst q => simp only [isTupV, q, s _ _ q]
  | tup q => simp only [isTupV, q, s _ _ q]
  | dK q => simp only [isTupV, q, s _ _ q]
theorem TrD.same {H H' : Hp} {v : V} {b : Bool} (h : TrD H v b) (s : Same H H') : TrD H' v b := by
  cases h with
  | other d n => exact .other (d.same s) (by rw [isTup_up d s]; exact n)
  | size h n => exact .size (s _ _ h) n
  | tri h dx sx dy ty dz =>
    have z := TrD.tri (s _ _ h) (dx.same s) sx (dy.same s) (ty.up dy s) (dz.same s)
    rw [onTup_up dy s] at z
    exact z
theorem TrD.v {K : PySem.W.Frag} {H : Hp} {v : V} {b : Bool} (h : TrD H v b) : TrV K H v b := by
  cases h with
  | other d n =>
    obtain ⟨t, ty, kt⟩ := d.kTup (K := K)
    rw [n] at kt
    exact .other ty kt
  | size h n => exact .size h n
  | tri h dx sx dy ty dz => exact .tri h dx sx dy ty dz
/-- a triple as the document has it -/
structure WfT (t : Tri) : Prop where
  nam : nameS t.1 = true
  row : rowL (t.2.1.map V.int) = true
  tim : tmV (.int t.2.2) = true
theorem WfT.sz {t : Tri} (w : WfT t) : t.1.length ≤ 8 := by
  have h := w.nam
  unfold nameS at h
  rw [Bool.and_eq_true, Bool.and_eq_true] at h
  exact of_decide_eq_true h.1.2
theorem WfT.few {t : Tri} (w : WfT t) : t.2.1.length ≤ 8 := by
  have h := w.row
  unfold rowL at h
  rw [Bool.and_eq_true] at h
  have z : (isI (.int ((t.2.1.map V.int).length : Int)) && (decide (1 ≤ ((t.2.1.map V.int).length : Int)) && decide (((t.2.1.map V.int).length : Int) ≤ 8))) = true := h.1
  rw [Bool.and_eq_true, Bool.and_eq_true, List.length_map] at z
  have := of_decide_eq_true z.2.2
  omega
theorem TriA.trD {H : Hp} {a : Addr} {t : Tri} (h : TriA H a t) (w : WfT t) : TrD H (.ref a) true := by
  obtain ⟨b, h1, h2⟩ := h
  have z := TrD.tri h1 (.str _) (show t.1.length ≤ 1000 by have := w.sz; omega) (.tup h2) (fun a' xs e q => by
    cases e
    have q' : H b = some (.tup xs) := q
    rw [h2] at q'
    cases q'
    refine ⟨by rw [List.length_map]; have := w.few; omega, fun x hx => ?_⟩
    obtain ⟨i, _, rfl⟩ := List.mem_map.mp hx
    exact ⟨.int i, True.intro⟩) (.int t.2.2)
  have e : ((nameV (.str t.1) && onTup H rowL (.ref b)) && tmV (.int t.2.2)) = true := by
    have e1 : nameV (.str t.1) = true := w.nam
    have e2 : onTup H rowL (.ref b) = true := by
      have h2' : H b = some (.tup (t.2.1.map V.int)) := h2
      simp only [onTup, h2']
      exact w.row
    rw [e1, e2, w.tim]
    rfl
  rw [e] at z
  exact z
abbrev sIsPd : Stmt := top 20
/-- whether a value is a product, for the values that are met -/
inductive PdV (K : PySem.W.Frag) (H : Hp) : V → Bool → Prop
  | other {v : V} {t : Value} (h : TyX K H v t) (k : PySem.W.kitOne K t (.type "tuple") = some false) : PdV K H v false
  | odd {a : Addr} {xs : List V} (h : H a = some (.tup xs)) (few : xs.length ≤ 1000) (f : V → Bool) (each : ∀ x ∈ xs, TrD H x (f x)) (bad : xs.all f = false) : PdV K H (.ref a) false
  | prod {a : Addr} {p : Pr} (h : ProA H a p) (few : p.length ≤ 1000) (w : ∀ t ∈ p, WfT t) : PdV K H (.ref a) (ascB (p.map fun t => kE (entT t)))
def spIsPd (K : PySem.W.Frag) : Sp := fun vs H Q _ => ∃ v b, vs = [v] ∧ PdV K H v b ∧ ∀ H', Same H H' → Q (.bl b) H'
theorem adj_ok : ∀ p : Pr, okAdj (p.map fun t => kE (entT t))
  | [] => True.intro
  | [_] => True.intro
  | a :: b :: r => ⟨ok_ent _ _, adj_ok (b :: r)⟩
section
variable {P : Program} {w : World} {K : PySem.W.Frag} {mg : Str → Option Value} {base : Heap} {fI fC fW fN : Addr} {fdI fdC fdW fdN : FuncData}
abbrev nIsPd : List Str := ["value", "triple"]
theorem scIsPd : FnScope nIsPd ["value"] (defScope sIsPd) := ⟨rfl, rfl, rfl, by decide +kernel, rfl, by decide +kernel, by decide +kernel⟩
theorem ok_isPd {f fT fA : Addr} {fd fdT fdA : FuncData} (F : Fun K "_is_product" "_is_product" sIsPd f fd) (T : T3 K mg fI fC fW fN)
    (eT : Glo K mg "_is_triple" fT) (GT : FnOk P w K mg base CX0 5 fT fdT ["value"] (spIsTr K)) (bT : Binds K fdT ["value"] [])
    (eA : Glo K mg "is_ascending" fA) (GA : FnOk P w K mg base CX0 1 fA fdA ["values"] (spIsAs K)) (bA : Binds K fdA ["values"] []) : FnOk P w K mg base CX0 6 f fd ["value"] (spIsPd K) := by
  refine F.ok scIsPd (fun vs H Q E h => ?_) (fun cdv A outer s H vs Q E hr h => ?_)
  · obtain ⟨v, b, rfl, _⟩ := h
    rfl
  · obtain ⟨v, b, rfl, c, k⟩ := h
    have r1 := hr.mono (show 1 ≤ 5 by decide)
    refine ⟨_, pss_cons (ps_if (pw_or (pt_not (pt_val (pe_callB call_isi (by rfl) T.isi (by decide +kernel) (pa_cons (pv 0) (pa_cons (pe_bltn (v := .ty "tuple") (by rfl) T.tup (by decide +kernel) rfl) pa_nil)))))
        (pw_or1 (pt_not (pt_val (pe_callB (cr_all rfl) (by rfl) T.all (by decide +kernel) (pa_cons (pe_lc (own := [("triple", 1)]) (g := gName 1) (tt := tYes) rfl scIsPd.nd (pi_tup (pv 0))
          (blkOk_by (own := [("triple", 1)]) (N := nIsPd) (sc := defScope sIsPd) (by decide +kernel)) (fun _ _ _ _ _ => pg_name (i := 1) scIsPd.nd rfl (Or.inl rfl)) (fun _ _ _ _ _ => pts_nil)
          (fun _ _ _ _ _ => pe_call GT hr (by rfl) eT.g eT.k bT .nil pass0 (pa_cons (pv 1) pa_nil))) pa_nil)))))).pt
        (pss_one (ps_ret pe_bl)) pss_nil)
      (pss_one (ps_ret (pe_call GA r1 (by rfl) eA.g eA.k bA .nil pass0 (pa_cons (pe_lc (own := [("triple", 1)]) (g := gName 1) (tt := tYes) rfl scIsPd.nd (pi_tup (pv 0))
          (blkOk_by (own := [("triple", 1)]) (N := nIsPd) (sc := defScope sIsPd) (by decide +kernel)) (fun _ _ _ _ _ => pg_name (i := 1) scIsPd.nd rfl (Or.inl rfl)) (fun _ _ _ _ _ => pts_nil)
          (fun _ _ _ _ _ => pe_slice (r := rSlT K) sl_tup (pv 1) po_none (po_some pe_int))) pa_nil)))), ?_⟩
    cases c with
    | @other _ t h kt => exact ⟨_, rfl, _, _, t, _, false, rfl, .ty _, h, kt, false, rfl, if_pos_of rfl (k H Same.rfl')⟩
    | @odd a xs h few f each bad =>
      refine ⟨_, rfl, _, _, _, _, true, rfl, .ty _, .base (.tup h), kit_ty (by decide +kernel), true, rfl, if_neg_of rfl ⟨_, rfl, a, rfl, ⟨_, SqT.of h⟩, fun D hD => lc_pure (f := fun i => .bl (f (xs.getD i .non))) (walk_tup (K := K) (a := a) (xs := xs)) (small1000 few) hD (fun H1 s1 => SqT.of (s1 _ _ h)) ?_ gName_mono ?_⟩⟩
      · rintro i x H2 H3 hi s2 ⟨rfl, hxi⟩
        have e : xs.getD i .non = x := by simp [List.getD, hxi]
        refine ⟨rfl, fun Q' q => ⟨_, rfl, x, _, rfl, ((each x (List.mem_of_getElem? hxi)).same s2).v, fun H4 s4 => ?_⟩⟩
        have q0 := q H4 s4
        rw [e] at q0
        exact q0
      · intro H2 s2 hD2
        refine ⟨D, (List.range xs.length).map fun i => f (xs.getD i .non), rfl, ?_, ?_⟩
        · rw [List.map_map]
          exact SqL.of hD2
        · rw [all_list, bad]
          exact ⟨_, rfl, if_pos_of rfl (k H2 s2)⟩
    | @prod a p h few wf =>
      obtain ⟨ts, h1, h2⟩ := h
      have lt : ts.length = p.length := Paired.length h2
      have few' : (ts.map V.ref).length ≤ 1000 := by rw [List.length_map, lt]; exact few
      refine ⟨_, rfl, _, _, _, _, true, rfl, .ty _, .base (.tup h1), kit_ty (by decide +kernel), true, rfl, if_neg_of rfl ⟨_, rfl, a, rfl, ⟨_, SqT.of h1⟩, fun D hD => lc_pure (f := fun _ => .bl true) (walk_tup (K := K) (a := a) (xs := ts.map V.ref)) (small1000 few') hD (fun H1 s1 => SqT.of (s1 _ _ h1)) ?_ gName_mono ?_⟩⟩
      · rintro i x H2 H3 hi s2 ⟨rfl, hxi⟩
        rw [List.getElem?_map] at hxi
        obtain ⟨t, ht, rfl⟩ := Option.map_eq_some_iff.mp hxi
        obtain ⟨u, hu, q⟩ := paired_get h2 ht
        exact ⟨rfl, fun Q' q' => ⟨_, rfl, _, _, rfl, ((q.trD (wf u (List.mem_of_getElem? hu))).same s2).v, fun H4 s4 => q' H4 s4⟩⟩
      · intro H2 s2 hD2
        have yes : ((List.range (ts.map V.ref).length).map fun _ => true).all id = true := by
          rw [List.all_map, List.all_eq_true]
          intro _ _
          rfl
        refine ⟨D, (List.range (ts.map V.ref).length).map fun _ => true, rfl, ?_, ?_⟩
        · rw [List.map_map]
          exact SqL.of hD2
        · rw [yes]
          refine ⟨_, rfl, if_neg_of rfl ⟨_, rfl, a, rfl, ⟨_, SqT.of (s2 _ _ h1)⟩, fun D2 hD3 => ?_⟩⟩
          have h2' : Paired (fun t u => TriA H2 t u) ts p := Paired.mapP h2 fun _ _ x => x.same s2
          refine lc_made (R := fun i y H' => ∃ q u, y = .ref q ∧ p[i]? = some u ∧ q ≠ D2 ∧ ∃ b, b ≠ D2 ∧ H' q = some (.tup [.str u.1, .ref b]) ∧ H' b = some (.tup (u.2.1.map V.int))) (walk_tup (K := K) (a := a) (xs := ts.map V.ref)) (fun i y Ha Hb r kd => ?_) (small1000 few') hD3 (fun H1 s1 => SqT.of (s1 _ _ (s2 _ _ h1))) ?_ gName_mono ?_
          · obtain ⟨q, u, r1, r2, r3, b, r4, r5, r6⟩ := r
            exact ⟨q, u, r1, r2, r3, b, r4, kd _ _ r3 r5, kd _ _ r4 r6⟩
          · rintro i x Ha Hb hi s3 acc ⟨rfl, hxi⟩
            rw [List.getElem?_map] at hxi
            obtain ⟨t, ht, rfl⟩ := Option.map_eq_some_iff.mp hxi
            obtain ⟨u, hu, q⟩ := paired_get h2' ht
            obtain ⟨b, g1, g2⟩ := q.same s3
            refine ⟨rfl, fun Q' q' => ⟨_, rfl, 2, rfl, t, _, rfl, SqT.of g1, fun z => absurd (show HT.sIx 3 3 (some 2) = 3 from z.2) (by decide), fun m hm => ?_⟩⟩
            rw [cut2]
            obtain ⟨ac, hac⟩ := acc
            have sm : Same Hb (upd Hb m (.tup [.str u.1, .ref b])) := Same.new _ hm
            have ne1 : m ≠ D2 := fun z => by rw [z, hac] at hm; cases hm
            have ne2 : b ≠ D2 := fun z => by
              have g2' : Hb b = some (.tup (u.2.1.map V.int)) := g2
              rw [z, hac] at g2'
              cases g2'
            exact q' _ _ sm ⟨m, u, rfl, hu, ne1, b, ne2, upd_same, sm _ _ g2⟩
          · intro H4 acc s4 hD4 hlen hacc
            have es : ∃ es : List Addr, acc = es.map V.ref ∧ Paired (fun t e => EntA H4 t e) es (p.map entT) := by
              have key : ∀ (acc : List V) (q : Pr), acc.length = q.length → (∀ (i : Nat) (y : V), acc[i]? = some y → ∃ (m : Addr) (u : Tri), y = V.ref m ∧ q[i]? = some u ∧ EntA H4 m (entT u)) → ∃ es : List Addr, acc = es.map V.ref ∧ Paired (fun t e => EntA H4 t e) es (q.map entT) := by
                intro acc
                induction acc with
                | nil =>
                  intro q hl _
                  cases q with
                  | nil => exact ⟨[], rfl, .nil⟩
                  | cons _ _ => cases hl
                | cons y acc ih =>
                  intro q hl hh
                  cases q with
                  | nil => cases hl
                  | cons u q =>
                    obtain ⟨m, u', e1, e2, e3⟩ := hh 0 y rfl
                    cases e2
                    obtain ⟨es, f1, f2⟩ := ih q (Nat.succ.inj hl) fun i z hz => hh (i + 1) z hz
                    exact ⟨m :: es, by rw [e1, f1]; rfl, .cons e3 f2⟩
              refine key acc p (by rw [hlen, List.length_map, lt]) fun i y hy => ?_
              obtain ⟨q, u, r1, r2, r3, b, r4, r5, r6⟩ := hacc i y hy
              exact ⟨q, u, r1, r2, b, r5, r6⟩
            obtain ⟨es, rfl, pe⟩ := es
            have kv := ents_kv (K := K) pe
            rw [List.map_map] at kv
            refine ⟨_, _, _, rfl, SqL.of hD4, by rw [hlen]; exact few', kv, adj_ok p, fun x hx => ?_, fun H5 s5 => k H5 (Same.tr s2 (Same.tr s4 s5))⟩
            obtain ⟨u, _, rfl⟩ := List.mem_map.mp hx
            show (kE (entT u)).depth ≤ 8
            rw [kE_depth]
            decide
end
end K0

/-! ## F4 -/
set_option maxRecDepth 100000
set_option maxHeartbeats 2000000
namespace ND
open PySem PySem.Spec PyProof.Rows L2 NS
/-- isinstance(d, c) -/
def rNIsi (P : Program) (w : World) (K : PySem.W.Frag) : List V → Hp → VK → Prop := fun xs H Q => ∃ (d : Addr) (M : List En) (c : V) (u : Value) (b : Bool), xs = [.ref d, c] ∧ ClsV c u ∧ Rd H d (DicN P w d M) ∧ PySem.W.kitOne K (.type "dict") u = some b ∧ Q (.bl b) H
theorem cr_nisi {X : Cx} : CallR X (.builtin "isinstance") (rNIsi X.prog X.w X.K) := by
  intro pins s σ H xs us Q I r h
  obtain ⟨d, M, c, u, b, rfl, k, hd, e, q⟩ := h
  obtain ⟨u1, u2, rfl, r1, r2⟩ := vals2 r
  have e2 := k.eq r2
  subst e2
  obtain rfl : u1 = Value.ref d := r1
  obtain ⟨_, _, xs', o, es, ep, _, ho, hx, _⟩ := dn_at I hd
  exact PySem.W.kia_one PySem.W.kitx_dict I.kIn ⟨o, ho, hx.1⟩ e (fun z => nomatch z) fun tk => ⟨.bl b, H, I.tok tk, rfl, q⟩
theorem callR_or {X : Cx} {f : Value} {r1 r2 : List V → Hp → VK → Prop} (h1 : CallR X f r1) (h2 : CallR X f r2) : CallR X f (fun xs H Q => r1 xs H Q ∨ r2 xs H Q) := by
  intro pins s σ H xs us Q I rv h
  rcases h with h | h
  · exact h1 pins s σ H xs us Q I rv h
  · exact h2 pins s σ H xs us Q I rv h
end ND
namespace K0
open PySem L2 NS ND RZ
/-! ### a polynomial, as data -/
/-- products, where their tuples stand, their numbers -/
abbrev Po := List (Pr × Addr × Int)
def enP (e : Pr × Addr × Int) : En := (kP e.1, e.2.1, .int e.2.2)
abbrev Ks (H : Hp) (L : Po) : Prop := ∀ e ∈ L, ProA H e.2.1 e.1
def PoA (P : Program) (w : World) (H : Hp) (d : Addr) (L : Po) : Prop := H d = some (DicN P w d (L.map enP)) ∧ Ks H L
theorem Ks.same {H H' : Hp} {L : Po} (h : Ks H L) (s : Same H H') : Ks H' L := fun e he => (h e he).same s
theorem Ks.kd {H H' : Hp} {d : Addr} {L : Po} (h : Ks H L) (hd : ∀ xs, H d ≠ some (.tup xs)) (k : Kd d H H') : Ks H' L := fun e he => (h e he).kd hd k
theorem PoA.same {P : Program} {w : World} {H H' : Hp} {d : Addr} {L : Po} (h : PoA P w H d L) (s : Same H H') : PoA P w H' d L := ⟨s _ _ h.1, h.2.same s⟩
theorem Ks.keyed {K : PySem.W.Frag} {H : Hp} {L : Po} (h : Ks H L) : Keyed K H (L.map enP) := fun e he => by
  obtain ⟨x, hx, rfl⟩ := List.mem_map.mp he
  exact (h x hx).kr
theorem nums_of (L : Po) : Nums (L.map enP) := fun e he => by
  obtain ⟨x, _, rfl⟩ := List.mem_map.mp he
  exact ⟨_, rfl⟩
structure WfP (p : Pr) : Prop where
  tri : ∀ t ∈ p, WfT t
  asc : ascB (p.map fun t => kE (entT t)) = true
  few : p.length ≤ 1000
structure WfL (L : Po) : Prop where
  pro : ∀ e ∈ L, WfP e.1
  num : ∀ e ∈ L, isI (.int e.2.2) = true ∧ 0 < e.2.2
  one : (L.map fun e => e.1).Nodup
  few : L.length ≤ 60
theorem WfL.keys {L : Po} (w : WfL L) : ((L.map enP).map (·.1)).Nodup := by
  rw [List.map_map]
  have e : ((fun x : En => x.1) ∘ enP) = fun e : Pr × Addr × Int => kP e.1 := rfl
  rw [e]
  have z := w.one
  have e2 : (L.map fun e => kP e.1) = (L.map fun e => e.1).map kP := by rw [List.map_map]; rfl
  rw [e2]
  exact List.Pairwise.map _ (fun a b hne h => hne (kP_inj h)) z
/-! ### _are_parts -/
theorem unlocked {H H' : Hp} {d : Addr} {od : Obj} {u : HO} (hd : H d = some u) (s : Same (upd H d (.frz od u)) H') : Same H (upd H' d u) := fun c o e => by
  by_cases q : c = d
  · rw [q] at e ⊢
    rw [hd] at e
    rw [upd_same]
    exact e
  · rw [upd_ne q]
    exact s _ _ (by rw [upd_ne q]; exact e)
theorem locked {H : Hp} {d : Addr} {o : HO} {c : Addr} {v : HO} (hd : H d = some v) (hc : upd H d o c = none) : c ≠ d ∧ H c = none := by
  have q : c ≠ d := fun e => by rw [e, upd_same] at hc; cases hc
  rw [upd_ne q] at hc
  exact ⟨q, hc⟩
theorem kd_lock {H : Hp} {d : Addr} {o : HO} : Kd d H (upd H d o) := Kd.put
theorem po_ne {P : Program} {w : World} {H : Hp} {d : Addr} {L : Po} (h : PoA P w H d L) : ∀ xs, H d ≠ some (.tup xs) := fun xs z => by
  rw [h.1] at z
  cases z
theorem ProA.pdV {K : PySem.W.Frag} {H : Hp} {a : Addr} {p : Pr} (h : ProA H a p) (w : WfP p) : PdV K H (.ref a) true := by
  have z := PdV.prod (K := K) h w.few w.tri
  rw [w.asc] at z
  exact z
abbrev sAreP : Stmt := top 21
def spAreP (P : Program) (w : World) : Sp := fun vs H Q _ => ∃ (d : Addr) (L : Po), vs = [.ref d] ∧ PoA P w H d L ∧ WfL L ∧ ∀ H', Same H H' → Q (.bl true) H'
theorem all_yes {α : Type} (l : List α) : (l.map fun _ => true).all id = true := by
  rw [List.all_map, List.all_eq_true]
  intro _ _
  rfl
section
variable {P : Program} {w : World} {K : PySem.W.Frag} {mg : Str → Option Value} {base : Heap} {fI fC fW fN : Addr} {fdI fdC fdW fdN : FuncData}
abbrev nAreP : List Str := ["value", "product", "number"]
theorem scAreP : FnScope nAreP ["value"] (defScope sAreP) := ⟨rfl, rfl, rfl, by decide +kernel, rfl, by decide +kernel, by decide +kernel⟩
theorem ok_areP {f fP : Addr} {fd fdP : FuncData} (F : Fun K "_are_parts" "_are_parts" sAreP f fd) (T : T3 K mg fI fC fW fN)
    (eP : Glo K mg "_is_product" fP) (GP : FnOk P w K mg base CX0 6 fP fdP ["value"] (spIsPd K)) (bP : Binds K fdP ["value"] [])
    (GC : FnOk P w K mg base CX0 2 fC fdC ["value"] spIsCnt) (bC : Binds K fdC ["value"] []) : FnOk P w K mg base CX0 7 f fd ["value"] (spAreP P w) := by
  refine F.ok scAreP (fun vs H Q E h => ?_) (fun cdv A outer s H vs Q E hr h => ?_)
  · obtain ⟨d, L, rfl, _⟩ := h
    rfl
  · obtain ⟨d, L, rfl, hp, wf, k⟩ := h
    have r2 := hr.mono (show 2 ≤ 6 by decide)
    refine ⟨_, pss_cons (ps_if (pw_or (pt_not (pt_val (pe_callB cr_nisi (by rfl) T.isi (by decide +kernel) (pa_cons (pv 0) (pa_cons (pe_bltn (v := .ty "dict") (by rfl) T.dct (by decide +kernel) rfl) pa_nil)))))
        (pw_or1 (pt_not (pt_val (pe_callB (cr_all rfl) (by rfl) T.all (by decide +kernel) (pa_cons (pe_lock (pe_lc (own := [("product", 1)]) (g := gName 1) (tt := tYes) rfl scAreP.nd (pi_nk (pv 0))
          (blkOk_by (own := [("product", 1)]) (N := nAreP) (sc := defScope sAreP) (by decide +kernel)) (fun _ _ _ _ _ => pg_name (i := 1) scAreP.nd rfl (Or.inl rfl)) (fun _ _ _ _ _ => pts_nil)
          (fun _ _ _ _ _ => pe_call GP hr (by rfl) eP.g eP.k bP .nil pass0 (pa_cons (pv 1) pa_nil)))) pa_nil)))))).pt
        (pss_one (ps_ret pe_bl)) pss_nil)
      (pss_one (ps_ret (pe_callB (cr_all rfl) (by rfl) T.all (by decide +kernel) (pa_cons (pe_lock (pe_lc (own := [("number", 2)]) (g := gName 2) (tt := tYes) rfl scAreP.nd (pi_nv (pv 0))
          (blkOk_by (own := [("number", 2)]) (N := nAreP) (sc := defScope sAreP) (by decide +kernel)) (fun _ _ _ _ _ => pg_name (i := 2) scAreP.nd rfl (Or.inl rfl)) (fun _ _ _ _ _ => pts_nil)
          (fun _ _ _ _ _ => pe_and (pe_call GC r2 (by rfl) T.gC T.kC bC .nil pass0 (pa_cons (pv 2) pa_nil)) (pe_one (pe_cmpR op_gt (pv 2) pe_int (nomark _)))))) pa_nil)))), ?_⟩
    have lz : L.length < sizeLine := small1000 (by have := wf.few; omega)
    have lz' : (L.map enP).length < sizeLine := by rw [List.length_map]; exact lz
    refine ⟨_, rfl, d, _, _, _, true, rfl, .ty _, .inl hp.1, kit_ty (by decide +kernel), true, rfl, if_neg_of rfl ?_⟩
    refine ⟨d, _, hp.1, True.intro, fun od => ?_⟩
    have ks1 : Ks (upd H d (.frz od (DicN P w d (L.map enP)))) L := hp.2.kd (po_ne hp) kd_lock
    refine ⟨_, rfl, d, od, _, rfl, upd_same, fun D hD => lc_pure (f := fun _ => .bl true) (walk_nk (P := P) (w := w) (d := d) (o := od) (M := L.map enP)) lz' hD (fun H1 s1 => s1 _ _ upd_same) ?_ gName_mono ?_⟩
    · rintro i x H2 H3 hi s2 ⟨rfl, e, he, rfl⟩
      rw [List.getElem?_map] at he
      obtain ⟨u, hu, rfl⟩ := Option.map_eq_some_iff.mp he
      have um := List.mem_of_getElem? hu
      exact ⟨rfl, fun Q' q => ⟨_, rfl, _, _, rfl, ((ks1 u um).same s2).pdV (wf.pro u um), fun H4 s4 => q H4 s4⟩⟩
    · intro H2 s2 hD2
      obtain ⟨nd, hDn⟩ := locked hp.1 hD
      have us := unlocked hp.1 s2
      refine ⟨s2 _ _ upd_same, D, (List.range (L.map enP).length).map fun _ => true, rfl, ?_, ?_⟩
      · rw [List.map_map]
        exact SqL.of (by rw [upd_ne nd]; exact hD2)
      · rw [all_yes]
        refine ⟨_, rfl, if_neg_of rfl ?_⟩
        have hp2 := hp.same us
        refine ⟨d, _, hp2.1, True.intro, fun od2 => ?_⟩
        refine ⟨_, rfl, d, od2, _, rfl, upd_same, fun D2 hD3 => lc_pure (f := fun _ => .bl true) (walk_nv (P := P) (w := w) (d := d) (o := od2) (M := L.map enP)) lz' hD3 (fun H1 s1 => s1 _ _ upd_same) ?_ gName_mono ?_⟩
        · rintro i x H4 H5 hi s3 ⟨rfl, e, he, rfl⟩
          rw [List.getElem?_map] at he
          obtain ⟨u, hu, rfl⟩ := Option.map_eq_some_iff.mp he
          have um := List.mem_of_getElem? hu
          obtain ⟨n1, n2⟩ := wf.num u um
          have c : isC (.int u.2.2) = true := by
            show (isI (.int u.2.2) && decide (0 ≤ u.2.2)) = true
            rw [n1, decide_eq_true (show 0 ≤ u.2.2 by omega)]
            rfl
          refine ⟨rfl, fun Q' q => ⟨_, rfl, _, rfl, .int u.2.2, isC (.int u.2.2), rfl, if_pos_of c ⟨_, rfl, _, _, rfl, rfl, ?_⟩⟩⟩
          show Q' (V.bl (decide (0 < u.2.2))) _
          rw [decide_eq_true n2]
          exact q _ Same.rfl'
        · intro H4 s4 hD4
          obtain ⟨nd2, _⟩ := locked hp2.1 hD3
          have us2 := unlocked hp2.1 s4
          refine ⟨s4 _ _ upd_same, D2, (List.range (L.map enP).length).map fun _ => true, rfl, ?_, ?_⟩
          · rw [List.map_map]
            exact SqL.of (by rw [upd_ne nd2]; exact hD4)
          · rw [all_yes]
            exact k _ (Same.tr us us2)
end
end K0

/-! ## F5 -/
set_option maxRecDepth 100000
set_option maxHeartbeats 2000000
namespace ND
open PySem PySem.Spec PyProof.Rows L2 NS
theorem putN_new {M : List En} {k : NestedKey} {b : Addr} {v : V} (h : k ∉ M.map (·.1)) : putN M k b v = M ++ [(k, b, v)] := by
  unfold putN
  rw [valN_none h]
  rfl
/-- a dict comprehension over a walk -/
theorem dcN_it {P : Program} {w : World} {K : PySem.W.Frag} {J : It} {n : Nat} {G : Hp → Prop} {Y : Nat → Hp → V → Hp → Prop} (wk : Walk J n G Y) {g : TG} {tk tv : TE} {vs : List Nat} {σ : L2.St} {H1 : Hp} {D : Addr} {Qd : Hp → Prop} (Pv : Nat → Hp → Prop) (h0 : Pv 0 (upd H1 D (DicN P w D [])))
    (hG : ∀ i H, i ≤ n → Pv i H → G H)
    (hs : ∀ i x H H', i < n → Pv i H → Y i H x H' → g x (wipe σ vs) H' fun σ2 H2 => wipe σ2 vs = wipe σ vs ∧ tYes σ2 H2 fun b H3 =>
      if b = true then tk σ2 H3 fun y H4 => tv σ2 H4 fun z H5 => ∃ (M : List En) (k : NestedKey) (b : Addr), y = .ref b ∧ H5 D = some (DicN P w D M) ∧ Keyed K H5 M ∧ Kr K H5 (b, k) ∧ M.length < sizeLine ∧ Pv (i + 1) (upd H5 D (DicN P w D (putN M k b z))) else Pv (i + 1) H3) (hd : ∀ H, Pv n H → Qd H) :
    ∃ W : Nat → Nat → Hp → Prop, (∃ m, W 0 m (upd H1 D (DicN P w D []))) ∧ ∀ i m H, W i m H →
      (J.stop i H ∧ Qd H) ∨ (J.go i H ∧ ∃ Nt : Hp → Prop, (∀ H', Nt H' → ∃ m', m' < m ∧ W (i + 1) m' H') ∧ ∀ x H', J.yld i H x H' → g x (wipe σ vs) H' fun σ2 H2 => wipe σ2 vs = wipe σ vs ∧ tYes σ2 H2 fun b H3 =>
        if b = true then tk σ2 H3 fun y H4 => tv σ2 H4 fun z H5 => ∃ (M : List En) (k : NestedKey) (b : Addr), y = .ref b ∧ H5 D = some (DicN P w D M) ∧ Keyed K H5 M ∧ Kr K H5 (b, k) ∧ M.length < sizeLine ∧ Nt (upd H5 D (DicN P w D (putN M k b z))) else Nt H3) := by
  refine ⟨fun i m H => m = n - i ∧ i ≤ n ∧ Pv i H, ⟨n, by simp, Nat.zero_le _, h0⟩, ?_⟩
  rintro i m H ⟨rfl, hi, p⟩
  have q := hG i H hi p
  by_cases lt : i < n
  · exact .inr ⟨wk.goes i H lt q, Pv (i + 1), fun H' p' => ⟨n - (i + 1), by omega, rfl, lt, p'⟩, fun x H' y => hs i x H H' lt p (wk.yields i H x H' lt q y)⟩
  · have e : i = n := by omega
    subst e
    exact .inl ⟨wk.stops H q, hd H p⟩
/-- d[k] in a block of its own: the readings are those of the def -/
theorem pe_ngetB (P : Program) (w : World) (K : PySem.W.Frag) {X : Cx} {o i : Expr} {pos : Pos} {td ty : TE} (hu : X.A.units + 9 < cLine) (ho : PE X o td) (hi : PE X i ty) (hs : NoSl i) (e1 : X.prog = P := by rfl) (e2 : X.w = w := by rfl) (e3 : X.K = K := by rfl) :
    PE X (.Subscript o i pos) (tNGet P w K td ty) := by
  subst e1 e2 e3
  exact pe_nget hu ho hi hs
end ND
namespace K0
open PySem L2 NS ND RZ
theorem u9 {k : Nat} {A : Around} (r : Room k A) : A.units + 9 < cLine := by have := r.units; omega
/-- ascending by the keys -/
def SrtP (S : Po) : Prop := S.Pairwise fun e e' => ltK (kP e.1) (kP e'.1) = true
theorem lined_po (L : Po) : Lined0 3 ((L.map enP).map rowN) := by
  refine ⟨.inr (.inr rfl), fun m hm => ?_, fun m hm m' hm' => ?_⟩
  · obtain ⟨e, he, rfl⟩ := List.mem_map.mp hm
    obtain ⟨u, _, rfl⟩ := List.mem_map.mp he
    obtain ⟨p, a, n⟩ := u
    cases p with
    | nil => exact .inr rfl
    | cons t p => exact .inl ⟨kT t, p.map kT, rfl, rfl⟩
  · obtain ⟨e, he, rfl⟩ := List.mem_map.mp hm
    obtain ⟨u, _, rfl⟩ := List.mem_map.mp he
    obtain ⟨e', he', rfl⟩ := List.mem_map.mp hm'
    obtain ⟨u', _, rfl⟩ := List.mem_map.mp he'
    exact ok_pro _ _
theorem rows_po (L : Po) : (L.map enP).map rowN = L.map fun e => (e.2.1, kP e.1) := by rw [List.map_map]; rfl
/-- a sorted list of such rows is a sorted list of the parts -/
theorem srt_of {L : Po} (w : WfL L) {M' : List NS.Row} (pm : M'.Perm ((L.map enP).map rowN)) (pw : M'.Pairwise fun m m' => ltK m'.2 m.2 = false) : ∃ S : Po, S.Perm L ∧ M' = (S.map fun e => (e.2.1, kP e.1)) ∧ SrtP S := by
  rw [rows_po] at pm
  obtain ⟨S, p, e⟩ := perm_lift (fun e : Pr × Addr × Int => (e.2.1, kP e.1)) pm L rfl
  refine ⟨S, p, e.symm, ?_⟩
  rw [← e, List.pairwise_map] at pw
  have nd : (S.map fun e => e.1).Nodup := (p.map _).nodup_iff.mpr w.one
  have z := List.pairwise_map.mp nd
  refine (pw.and z).imp fun {a b} h => ?_
  rcases ltK_tot (kP a.1) (kP b.1) (fun q => h.2 (kP_inj q)) with q | q
  · exact q
  · have h1 : ltK (kP b.1) (kP a.1) = false := h.1
    rw [q] at h1
    cases h1
theorem WfL.perm {L S : Po} (w : WfL L) (p : S.Perm L) : WfL S :=
  ⟨fun e he => w.pro e (p.mem_iff.mp he), fun e he => w.num e (p.mem_iff.mp he), (p.map _).nodup_iff.mpr w.one, by rw [p.length_eq]; exact w.few⟩
theorem Ks.perm {H : Hp} {L S : Po} (h : Ks H L) (p : S.Perm L) : Ks H S := fun e he => h e (p.mem_iff.mp he)
/-! ### the class Whence -/
abbrev sW (j : Nat) : Stmt := inClass (top 28) j
theorem ps_never {X : Cx} {st : Stmt} : PS X st (fun _ _ _ => False) := ⟨fun _ _ _ _ _ _ h => h.elim⟩
/-- at p stands the whence with these parts, sorted -/
def WhA (P : Program) (w : World) (C : Addr) (H : Hp) (p dp : Addr) (S : Po) : Prop := (∃ dx, H p = some (.ins C dx [("_parts", .ref dp)])) ∧ PoA P w H dp S ∧ SrtP S ∧ WfL S
def WhO (P : Program) (w : World) (C : Addr) (H : Hp) (p : Addr) (S : Po) : Prop := ∃ dp, WhA P w C H p dp S
theorem WhA.same {P : Program} {w : World} {C : Addr} {H H' : Hp} {p dp : Addr} {S : Po} (h : WhA P w C H p dp S) (s : Same H H') : WhA P w C H' p dp S := ⟨h.1.imp fun _ e => s _ _ e, h.2.1.same s, h.2.2.1, h.2.2.2⟩
theorem WhO.same {P : Program} {w : World} {C : Addr} {H H' : Hp} {p : Addr} {S : Po} (h : WhO P w C H p S) (s : Same H H') : WhO P w C H' p S := h.imp fun _ x => x.same s
structure TWh (K : PySem.W.Frag) (C : Addr) : Prop where
  cl : L2.Cls K C
  n1 : NoAttr K C "_parts"
structure TS (K : PySem.W.Frag) (mg : Str → Option Value) : Prop where
  srt : mg "sorted" = none
  tup : mg "tuple" = none
  set : mg "set" = none
  lst : mg "list" = none
  sum : mg "sum" = none
  all : mg "all" = none
  len : mg "len" = none
  str : mg "str" = none
  itr : mg "iter" = none
  isi : mg "isinstance" = none
def spInit (P : Program) (w : World) (C : Addr) : Sp := fun vs H Q _ => ∃ (p dx d : Addr) (L : Po), vs = [.ref p, .ref d] ∧ H p = some (.ins C dx []) ∧ PoA P w H d L ∧ WfL L ∧
  ∀ H' S dp, S.Perm L → H dp = none → WhA P w C H' p dp S → (∀ c o, c ≠ p → H c = some o → H' c = some o) → Q .non H'
section
variable {P : Program} {w : World} {K : PySem.W.Frag} {mg : Str → Option Value} {base : Heap} {C fA : Addr} {fdA : FuncData}
abbrev nInit : List Str := ["self", "parts", "product"]
theorem scInit : FnScope nInit ["self", "parts"] (defScope (sW 0)) := ⟨rfl, rfl, rfl, by decide +kernel, rfl, by decide +kernel, by decide +kernel⟩
theorem ok_init {f : Addr} {fd : FuncData} (F : Fun K "__init__" "Whence.__init__" (sW 0) f fd) (T : TWh K C) (TB : TS K mg)
    (eA : Glo K mg "_are_parts" fA) (GA : FnOk P w K mg base CX0 7 fA fdA ["value"] (spAreP P w)) (bA : Binds K fdA ["value"] []) : FnOk P w K mg base CX0 8 f fd ["self", "parts"] (spInit P w C) := by
  refine F.ok scInit (fun vs H Q E h => ?_) (fun cdv A outer s H vs Q E hr h => ?_)
  · obtain ⟨p, dx, d, L, rfl, _⟩ := h
    rfl
  · obtain ⟨p, dx, d, L, rfl, hp, hd, wf, k⟩ := h
    refine ⟨_, pss_cons (ps_if (pt_not (pt_val (pe_call GA hr (by rfl) eA.g eA.k bA .nil pass0 (pa_cons (pv 1) pa_nil)))) (pss_one ps_never) pss_nil)
      (pss_one (ps_fld (pv 0) (pe_dcN (own := [("product", 2)]) (g := gName 2) (tt := tYes) rfl (u9 hr) scInit.nd
        (pi_list (pe_callB (cr_nsort rfl hr.units) (by rfl) TB.srt (by decide +kernel) (pa_cons (pv 1) pa_nil)))
        (blkOk_by (own := [("product", 2)]) (N := nInit) (sc := defScope (sW 0)) (by decide +kernel)) (fun _ _ _ _ _ => pg_name (i := 2) scInit.nd rfl (Or.inl rfl)) (fun _ _ _ _ _ => pts_nil)
        (fun _ _ _ _ _ => pv 2) (fun _ _ _ _ _ => pe_ngetB P w K (u9 hr) (pv 1) (pv 2) (fun _ _ => rfl))) rfl)), ?_⟩
    refine ⟨_, rfl, d, L, rfl, hd, wf, fun H1 s1 => ⟨_, rfl, if_neg_of rfl ?_⟩⟩
    have hd1 := hd.same s1
    have hp1 := s1 _ _ hp
    refine ⟨_, rfl, d, _, 3, rfl, .inl hd1.1, hd1.2.keyed, lined_po L, fun M' l pm pw hl => ?_⟩
    obtain ⟨S, pS, rfl, srt⟩ := srt_of wf pm pw
    have wS := wf.perm pS
    have hrefs : (List.map (fun m : NS.Row => V.ref m.1) (List.map (fun e : Pr × Addr × Int => (e.2.1, kP e.1)) S)) = S.map fun e => V.ref e.2.1 := by rw [List.map_map]; rfl
    rw [hrefs]
    have sl : Same H1 (upd H1 l (.lst (S.map fun e => V.ref e.2.1))) := Same.new _ hl
    have few := wf.few
    have lS : S.length = L.length := pS.length_eq
    refine ⟨l, rfl, ⟨_, SqL.of upd_same⟩, fun D hD => dcN_it (P := P) (w := w) (K := K) (walk_list (K := K) (a := l) (xs := S.map fun e => V.ref e.2.1)) (fun i H' => Same (upd H1 l (.lst (S.map fun e => V.ref e.2.1))) H' ∧ H' D = some (DicN P w D ((S.take i).map enP))) ⟨Same.new _ hD, upd_same⟩ (fun i H' _ q => SqL.of (q.1 _ _ upd_same)) ?_ ?_⟩
    · rintro i x H3 H4 hi ⟨s3, hD3⟩ ⟨rfl, hx⟩
      rw [List.getElem?_map] at hx
      obtain ⟨e, he, rfl⟩ := Option.map_eq_some_iff.mp hx
      have em := List.mem_of_getElem? he
      have eL := pS.mem_iff.mp em
      have s13 : Same H1 H4 := Same.tr sl s3
      have hd3 := hd1.same s13
      have k3 : Ks H4 S := (hd1.2.same s13).perm pS
      refine ⟨rfl, ?_⟩
      dsimp only [tYes]
      rw [if_pos rfl]
      have vl : valN (L.map enP) (kP e.1) = some (.int e.2.2) := valN_mem wf.keys (e := enP e) (List.mem_map.mpr ⟨e, eL, rfl⟩)
      refine ⟨_, rfl, _, rfl, _, rfl, d, e.2.1, _, kP e.1, .int e.2.2, rfl, rfl, .inl hd3.1, hd3.2.keyed, (k3 e em).kr, vl, ?_⟩
      have sub : ∀ u ∈ S.take i, u ∈ S := fun u hu => List.mem_of_mem_take hu
      refine ⟨_, kP e.1, e.2.1, rfl, hD3, Ks.keyed fun u hu => k3 u (sub u hu), (k3 e em).kr, ?_, ?_, ?_⟩
      · rw [List.length_map]
        exact small1000 (by rw [List.length_take]; omega)
      · intro c o eo
        rw [upd_ne (ne_of_none eo hD)]
        exact s3 _ _ eo
      · have ilt : i < S.length := (List.getElem?_eq_some_iff.mp he).1
        have tk : S.take (i + 1) = S.take i ++ [e] := by rw [List.take_add_one, he]; rfl
        have nw : kP e.1 ∉ ((S.take i).map enP).map (·.1) := by
          have z := wS.keys
          have z2 : (((S.take (i + 1)).map enP).map (·.1)).Nodup := z.sublist (((List.take_sublist _ _).map _).map _)
          rw [tk, List.map_append, List.map_append] at z2
          intro hm
          exact (List.nodup_append.mp z2).2.2 _ hm _ (by simp [enP]) rfl
        rw [putN_new nw, upd_same, tk, List.map_append]
        rfl
    · rintro H5 ⟨s5, hD5⟩
      rw [List.length_map, List.take_length] at hD5
      have s15 : Same H1 H5 := Same.tr sl s5
      refine ⟨_, rfl, p, C, dx, _, rfl, s15 _ _ hp1, T.cl, T.n1, by show 0 < 1000; decide, ?_⟩
      have np : D ≠ p := fun z => by
        rw [z, sl _ _ hp1] at hD
        cases hD
      have nt : ∀ xs, H5 p ≠ some (.tup xs) := fun xs z => by
        rw [s15 _ _ hp1] at z
        cases z
      have kd : Kd p H5 (upd H5 p (.ins C dx [("_parts", .ref D)])) := Kd.put
      have hD0 : H D = none := by
        cases e : H D with
        | none => rfl
        | some o =>
          rw [(Same.tr s1 sl) _ _ e] at hD
          cases hD
      refine k _ S D pS hD0 ⟨⟨dx, upd_same⟩, ⟨?_, ?_⟩, srt, wS⟩ fun c o n eo => ?_
      · rw [upd_ne np]
        exact hD5
      · exact ((hd1.2.same s15).perm pS).kd nt kd
      · rw [upd_ne n]
        exact s15 _ _ (s1 _ _ eo)
end
end K0

/-! ## F6 -/
set_option maxRecDepth 100000
set_option maxHeartbeats 2000000
namespace K0
open PySem L2 NS ND RZ
/-! ### parts, ways, len -/
def spParts (P : Program) (w : World) (C : Addr) : Sp := fun vs H Q _ => ∃ (p : Addr) (S : Po), vs = [.ref p] ∧ WhO P w C H p S ∧ ∀ H' d, Same H H' → H d = none → PoA P w H' d S → Q (.ref d) H'
def numsP (S : Po) : List Int := S.map fun e => e.2.2
def spWays (P : Program) (w : World) (C : Addr) : Sp := fun vs H Q _ => ∃ (p : Addr) (S : Po), vs = [.ref p] ∧ WhO P w C H p S ∧ ∀ H', Same H H' → Q (.int (numsP S).sum) H'
def spLen (P : Program) (w : World) (C : Addr) : Sp := fun vs H Q _ => ∃ (p : Addr) (S : Po), vs = [.ref p] ∧ WhO P w C H p S ∧ Q (.int S.length) H
theorem look1 (dp : Addr) : ([("_parts", .ref dp)] : List (Str × V)).lookup ("_parts" : Str) = some (.ref dp) := by
  rw [List.lookup_cons]
  have e : (("_parts" : Str) == ("_parts" : Str)) = true := by decide +kernel
  rw [e]
/-- the entries' values -/
theorem vals_enP (S : Po) : ((S.map enP).map fun e => e.2.2) = (numsP S).map V.int := by
  rw [List.map_map, numsP, List.map_map]
  rfl
theorem pe_fldB (K : PySem.W.Frag) {X : Cx} {e : Expr} {f : Str} {pos : Pos} {ta : TE} (he : PE X e ta) (hb : attributeBase e f X.env (eval e X.env) = eval e X.env) (e3 : X.K = K := by rfl) : PE X (.Attribute e f pos) (tFld K ta f) := by
  subst e3
  exact pe_fld he hb
section
variable {P : Program} {w : World} {K : PySem.W.Frag} {mg : Str → Option Value} {base : Heap} {C : Addr}
abbrev nParts : List Str := ["self", "product"]
theorem scParts : FnScope nParts ["self"] (defScope (sW 1)) := ⟨rfl, rfl, rfl, by decide +kernel, rfl, by decide +kernel, by decide +kernel⟩
theorem ok_parts {f : Addr} {fd : FuncData} (F : Fun K "parts" "Whence.parts" (sW 1) f fd) (T : TWh K C) : FnOk P w K mg base CX0 1 f fd ["self"] (spParts P w C) := by
  refine F.ok scParts (fun vs H Q E h => ?_) (fun cdv A outer s H vs Q E hr h => ?_)
  · obtain ⟨p, S, rfl, _⟩ := h
    rfl
  · obtain ⟨p, S, rfl, ⟨dp, ⟨dx, ep⟩, hd, srt, wf⟩, k⟩ := h
    refine ⟨_, pss_one (ps_ret (pe_lock (pe_dcN (own := [("product", 1)]) (g := gName 1) (tt := tYes) rfl (u9 hr) scParts.nd (pi_nk (pe_fld (pv 0) rfl))
        (blkOk_by (own := [("product", 1)]) (N := nParts) (sc := defScope (sW 1)) (by decide +kernel)) (fun _ _ _ _ _ => pg_name (i := 1) scParts.nd rfl (Or.inl rfl)) (fun _ _ _ _ _ => pts_nil)
        (fun _ _ _ _ _ => pv 1) (fun _ _ _ _ _ => pe_ngetB P w K (u9 hr) (pe_fldB K (pv 0) rfl) (pv 1) (fun _ _ => rfl))))), ?_⟩
    have few := wf.few
    refine ⟨dp, _, hd.1, True.intro, fun od => ?_⟩
    have np : p ≠ dp := fun z => by rw [z, hd.1] at ep; cases ep
    have ep1 : upd H dp (.frz od (DicN P w dp (S.map enP))) p = some (.ins C dx [("_parts", .ref dp)]) := by rw [upd_ne np]; exact ep
    have ks1 : Ks (upd H dp (.frz od (DicN P w dp (S.map enP)))) S := hd.2.kd (po_ne hd) kd_lock
    refine ⟨_, rfl, p, C, dx, _, _, rfl, ep1, T.cl, T.n1, look1 dp, dp, od, _, rfl, upd_same, fun D hD => dcN_it (P := P) (w := w) (K := K) (walk_nk (P := P) (w := w) (d := dp) (o := od) (M := S.map enP)) (fun i H' => Same (upd H dp (.frz od (DicN P w dp (S.map enP)))) H' ∧ H' D = some (DicN P w D ((S.take i).map enP))) ⟨Same.new _ hD, upd_same⟩ (fun i H' _ q => q.1 _ _ upd_same) ?_ ?_⟩
    · rintro i x H3 H4 hi ⟨s3, hD3⟩ ⟨rfl, e', he', rfl⟩
      rw [List.getElem?_map] at he'
      obtain ⟨e, he, rfl⟩ := Option.map_eq_some_iff.mp he'
      have em := List.mem_of_getElem? he
      have k3 : Ks H4 S := ks1.same s3
      refine ⟨rfl, ?_⟩
      dsimp only [tYes]
      rw [if_pos rfl]
      have vl : valN (S.map enP) (kP e.1) = some (.int e.2.2) := valN_mem wf.keys (e := enP e) (List.mem_map.mpr ⟨e, em, rfl⟩)
      refine ⟨_, rfl, _, rfl, p, C, dx, _, _, rfl, s3 _ _ ep1, T.cl, T.n1, look1 dp, _, rfl, dp, e.2.1, _, kP e.1, .int e.2.2, rfl, rfl, .inr ⟨od, s3 _ _ upd_same⟩, k3.keyed, (k3 e em).kr, vl, ?_⟩
      have sub : ∀ u ∈ S.take i, u ∈ S := fun u hu => List.mem_of_mem_take hu
      refine ⟨_, kP e.1, e.2.1, rfl, hD3, Ks.keyed fun u hu => k3 u (sub u hu), (k3 e em).kr, ?_, ?_, ?_⟩
      · rw [List.length_map]
        exact small1000 (by rw [List.length_take]; omega)
      · intro c o eo
        rw [upd_ne (ne_of_none eo hD)]
        exact s3 _ _ eo
      · have ilt : i < S.length := (List.getElem?_eq_some_iff.mp he).1
        have tk : S.take (i + 1) = S.take i ++ [e] := by rw [List.take_add_one, he]; rfl
        have nw : kP e.1 ∉ ((S.take i).map enP).map (·.1) := by
          have z := wf.keys
          have z2 : (((S.take (i + 1)).map enP).map (·.1)).Nodup := z.sublist (((List.take_sublist _ _).map _).map _)
          rw [tk, List.map_append, List.map_append] at z2
          intro hm
          exact (List.nodup_append.mp z2).2.2 _ hm _ (by simp [enP]) rfl
        rw [putN_new nw, upd_same, tk, List.map_append]
        rfl
    · rintro H5 ⟨s5, hD5⟩
      rw [List.length_map, List.take_length] at hD5
      obtain ⟨nd, hDn⟩ := locked hd.1 hD
      have us := unlocked hd.1 s5
      refine ⟨s5 _ _ upd_same, k _ D us hDn ⟨?_, hd.2.same us⟩⟩
      rw [upd_ne nd]
      exact hD5
theorem scWays : FnScope ["self"] ["self"] (defScope (sW 3)) := ⟨rfl, rfl, rfl, by decide +kernel, rfl, by decide +kernel, by decide +kernel⟩
theorem ok_ways {f : Addr} {fd : FuncData} (F : Fun K "ways" "Whence.ways" (sW 3) f fd) (T : TWh K C) (B : TS K mg) : FnOk P w K mg base CX0 1 f fd ["self"] (spWays P w C) := by
  refine F.ok scWays (fun vs H Q E h => ?_) (fun cdv A outer s H vs Q E hr h => ?_)
  · obtain ⟨p, S, rfl, _⟩ := h
    rfl
  · obtain ⟨p, S, rfl, ⟨dp, ⟨dx, ep⟩, hd, srt, wf⟩, k⟩ := h
    refine ⟨_, pss_one (ps_ret (pe_callB (cr_sum rfl) (by rfl) B.sum (by decide +kernel) (pa_cons (pe_callTy (T := "list") (cr_nlistV rfl) (by rfl) B.lst (by decide +kernel) (pa_cons (pe_nm0 PySem.F.slot_dict_values PySem.F.type_dict_values mt_nvalues (pe_fld (pv 0) rfl)) pa_nil)) pa_nil))), ?_⟩
    refine ⟨_, rfl, p, C, dx, _, _, rfl, ep, T.cl, T.n1, look1 dp, ⟨dp, _, rfl, .inl hd.1⟩, dp, _, rfl, rfl, .inl hd.1, fun q hq => ?_⟩
    have s1 : Same H (upd H q (valsO q dp)) := Same.new _ hq
    refine ⟨q, dp, _, rfl, upd_same, .inl (s1 _ _ hd.1), fun l hl => ?_⟩
    rw [vals_enP]
    have s2 : Same H (upd (upd H q (valsO q dp)) l (.lst ((numsP S).map V.int))) := Same.tr s1 (Same.new _ hl)
    exact ⟨l, numsP S, rfl, SqL.of upd_same, k _ s2⟩
theorem scLen : FnScope ["self"] ["self"] (defScope (sW 13)) := ⟨rfl, rfl, rfl, by decide +kernel, rfl, by decide +kernel, by decide +kernel⟩
theorem ok_len {f : Addr} {fd : FuncData} (F : Fun K "__len__" "Whence.__len__" (sW 13) f fd) (T : TWh K C) (B : TS K mg) : FnOk P w K mg base CX0 1 f fd ["self"] (spLen P w C) := by
  refine F.ok scLen (fun vs H Q E h => ?_) (fun cdv A outer s H vs Q E hr h => ?_)
  · obtain ⟨p, S, rfl, _⟩ := h
    rfl
  · obtain ⟨p, S, rfl, ⟨dp, ⟨dx, ep⟩, hd, srt, wf⟩, k⟩ := h
    refine ⟨_, pss_one (ps_ret (pe_callB cr_nlen (by rfl) B.len PySem.boot_len (pa_cons (pe_fld (pv 0) rfl) pa_nil))), ?_⟩
    refine ⟨_, rfl, p, C, dx, _, _, rfl, ep, T.cl, T.n1, look1 dp, dp, _, rfl, .inl hd.1, hd.2.keyed, ?_⟩
    rw [List.length_map]
    exact k
end
end K0

/-! ## F7 -/
set_option maxRecDepth 100000
set_option maxHeartbeats 2000000
namespace K0
open PySem L2 NS ND RZ
/-! ### entries: sorted, each once -/
abbrev Es (H : Hp) : List Addr → List Ent → Prop := Paired fun t e => EntA H t e
theorem Es.same {H H' : Hp} {ts : List Addr} {es : List Ent} (h : Es H ts es) (s : Same H H') : Es H' ts es := Paired.mapP h fun _ _ x => x.same s
theorem Es.kd {H H' : Hp} {d : Addr} {ts : List Addr} {es : List Ent} (h : Es H ts es) (hd : ∀ xs, H d ≠ some (.tup xs)) (k : Kd d H H') : Es H' ts es := Paired.mapP h fun _ _ x => x.kd hd k
def ltE (e e' : Ent) : Bool := ltK (kE e) (kE e')
abbrev AscE (es : List Ent) : Prop := es.Pairwise fun e e' => ltE e e' = true
theorem ltE_irr (e : Ent) : ltE e e = false := ltK_irr _
theorem ltE_tr {a b c : Ent} (h1 : ltE a b = true) (h2 : ltE b c = true) : ltE a c = true := ltK_tr _ _ _ h1 h2
/-- two ascending lists of the same members are the same -/
theorem asc_uniq : ∀ {l m : List Ent}, AscE l → AscE m → (∀ e, e ∈ l ↔ e ∈ m) → l = m
  | [], [], _, _, _ => rfl
  | [], b :: m, _, _, h => absurd ((h b).mpr List.mem_cons_self) List.not_mem_nil
  | a :: l, [], _, _, h => absurd ((h a).mp List.mem_cons_self) List.not_mem_nil
  | a :: l, b :: m, hl, hm, h => by
    have hl' := List.pairwise_cons.mp hl
    have hm' := List.pairwise_cons.mp hm
    have e : a = b := by
      rcases List.mem_cons.mp ((h a).mp List.mem_cons_self) with z | z
      · exact z
      · rcases List.mem_cons.mp ((h b).mpr List.mem_cons_self) with y | y
        · exact y.symm
        · have q := ltE_tr (hm'.1 a z) (hl'.1 b y)
          rw [ltE_irr] at q
          cases q
    subst e
    have na : a ∉ l := fun z => by have q := hl'.1 a z; rw [ltE_irr] at q; cases q
    have nb : a ∉ m := fun z => by have q := hm'.1 a z; rw [ltE_irr] at q; cases q
    rw [asc_uniq hl'.2 hm'.2 fun e => ⟨fun z => ?_, fun z => ?_⟩]
    · rcases List.mem_cons.mp ((h e).mp (List.mem_cons_of_mem _ z)) with y | y
      · exact absurd (y ▸ z) na
      · exact y
    · rcases List.mem_cons.mp ((h e).mpr (List.mem_cons_of_mem _ z)) with y | y
      · exact absurd (y ▸ z) nb
      · exact y
theorem rows_ents {H : Hp} : ∀ N : List NS.Row, (∀ m ∈ N, ∃ e, m.2 = kE e ∧ EntA H m.1 e) → ∃ es, Es H (N.map (·.1)) es ∧ es.map kE = N.map (·.2)
  | [], _ => ⟨[], .nil, rfl⟩
  | m :: N, h => by
    obtain ⟨e, ee, a⟩ := h m List.mem_cons_self
    obtain ⟨es, r1, r2⟩ := rows_ents N fun u hu => h u (List.mem_cons_of_mem _ hu)
    exact ⟨e :: es, .cons a r1, by rw [List.map_cons, List.map_cons, ← ee, r2]⟩
theorem lined_ents {N : List NS.Row} (h : ∀ m ∈ N, ∃ e, m.2 = kE e) : Lined 2 N := by
  refine ⟨.inr (.inl rfl), fun m hm => ?_, fun m hm m' hm' => ?_⟩
  · obtain ⟨e, ee⟩ := h m hm
    exact ⟨.text e.1, [kR e.2], ee, rfl⟩
  · obtain ⟨e, ee⟩ := h m hm
    obtain ⟨e', ee'⟩ := h m' hm'
    rw [ee, ee']
    exact ok_ent _ _
/-- sorted(set(l)) -/
theorem asc_ents {K : PySem.W.Frag} {w : World} {H : Hp} {l : Addr} {ts : List Addr} {es : List Ent} {Q : VK} (hl : H l = some (.lst (ts.map V.ref))) (he : Es H ts es) (few : ts.length < 64)
    (k : ∀ H' p ts' es', Same H H' → H p = none → H' p = some (.lst (ts'.map V.ref)) → Es H' ts' es' → AscE es' → (∀ e, e ∈ es' ↔ e ∈ es) → Q (.ref p) H') : rSetOf K w [.ref l] H fun v H1 => rSortSet K w [v] H1 Q := by
  have len : ts.length = es.length := Paired.length he
  obtain ⟨r1, r2⟩ := pair_rows kE ts es len
  have each : ∀ m ∈ ts.zip (es.map kE), ∃ e, e ∈ es ∧ m.2 = kE e ∧ EntA H m.1 e := by
    intro m hm
    obtain ⟨j, hj⟩ := List.mem_iff_getElem?.mp hm
    obtain ⟨g1, g2⟩ := List.getElem?_zip_eq_some.mp hj
    rw [List.getElem?_map] at g2
    obtain ⟨e, q1, q2⟩ := Option.map_eq_some_iff.mp g2
    obtain ⟨e', f1, f2⟩ := paired_get he g1
    rw [q1] at f1
    cases f1
    exact ⟨e, List.mem_of_getElem? q1, q2.symm, f2⟩
  refine ⟨l, ts.zip (es.map kE), rfl, by rw [r1]; exact SqL.of hl, fun m hm => ?_, by rw [List.length_zip, List.length_map]; omega, fun a M ha sub all nd => ?_⟩
  · obtain ⟨e, _, q2, q3⟩ := each m hm
    have z := q3.kr (K := K)
    rw [← q2] at z
    exact z
  · have sa : Same H (upd H a (SetN w a M)) := Same.new _ ha
    refine ⟨a, M, 2, rfl, upd_same, fun m hm => ?_, lined_ents fun m hm => ?_, fun M' p pm pw hp => ?_⟩
    · obtain ⟨e, _, q2, q3⟩ := each m (sub m hm)
      have z := (q3.same sa).kr (K := K)
      rw [← q2] at z
      exact z
    · obtain ⟨e, _, q2, _⟩ := each m (sub m hm)
      exact ⟨e, q2⟩
    · have sp : Same (upd H a (SetN w a M)) (upd (upd H a (SetN w a M)) p (.lst (M'.map fun m => V.ref m.1))) := Same.new _ hp
      have s2 := Same.tr sa sp
      have hp0 : H p = none := by
        cases q : H p with
        | none => rfl
        | some o => rw [sa _ _ q] at hp; cases hp
      obtain ⟨es', f1, f2⟩ := rows_ents (H := upd (upd H a (SetN w a M)) p (.lst (M'.map fun m => V.ref m.1))) M' fun m hm => by
        obtain ⟨e, _, q2, q3⟩ := each m (sub m (pm.mem_iff.mp hm))
        exact ⟨e, q2, q3.same s2⟩
      refine k _ p (M'.map (·.1)) es' s2 hp0 (by rw [upd_same, List.map_map]; rfl) f1 ?_ fun e => ?_
      · have z : (M'.map (·.2)).Pairwise fun k k' => ltK k k' = true := List.pairwise_map.mpr pw
        rw [← f2] at z
        exact List.pairwise_map.mp z
      · constructor
        · intro h
          have z : kE e ∈ M'.map (·.2) := by rw [← f2]; exact List.mem_map.mpr ⟨e, h, rfl⟩
          obtain ⟨m, hm, em⟩ := List.mem_map.mp z
          obtain ⟨e', h', q2, _⟩ := each m (sub m (pm.mem_iff.mp hm))
          rw [q2] at em
          rw [← kE_inj em]
          exact h'
        · intro h
          have z : kE e ∈ (ts.zip (es.map kE)).map (·.2) := by rw [r2]; exact List.mem_map.mpr ⟨e, h, rfl⟩
          obtain ⟨m, hm, em⟩ := List.mem_map.mp z
          have y := all m hm
          rw [em] at y
          obtain ⟨m', hm', em'⟩ := List.mem_map.mp y
          have x : kE e ∈ M'.map (·.2) := List.mem_map.mpr ⟨m', pm.mem_iff.mpr hm', em'⟩
          rw [← f2] at x
          obtain ⟨e', h', q⟩ := List.mem_map.mp x
          rw [← kE_inj q]
          exact h'
end K0

/-! ## F8 -/
set_option maxRecDepth 100000
set_option maxHeartbeats 2000000
namespace K0
open PySem L2 NS ND RZ
/-! ### unknowns -/
/-- any walk, with any step -/
theorem walk_it {J : It} {n : Nat} {G : Hp → Prop} {Y : Nat → Hp → V → Hp → Prop} (w : Walk J n G Y) {B : V → Hp → (Hp → Prop) → Prop} {H0 : Hp} {Qd : Hp → Prop} (Pv : Nat → Hp → Prop) (h0 : Pv 0 H0) (hG : ∀ i H, i ≤ n → Pv i H → G H)
    (hs : ∀ i x H H', i < n → Pv i H → Y i H x H' → B x H' (Pv (i + 1))) (hd : ∀ H, Pv n H → Qd H) :
    ∃ W : Nat → Nat → Hp → Prop, (∃ m, W 0 m H0) ∧ ∀ i m H, W i m H → (J.stop i H ∧ Qd H) ∨ (J.go i H ∧ ∃ Nx : Hp → Prop, (∀ H', Nx H' → ∃ m', m' < m ∧ W (i + 1) m' H') ∧ ∀ x H', J.yld i H x H' → B x H' Nx) := by
  refine ⟨fun i m H => m = n - i ∧ i ≤ n ∧ Pv i H, ⟨n, by simp, Nat.zero_le _, h0⟩, ?_⟩
  rintro i m H ⟨rfl, hi, p⟩
  have q := hG i H hi p
  by_cases hlt : i < n
  · exact .inr ⟨w.goes i H hlt q, Pv (i + 1), fun H' p' => ⟨n - (i + 1), by omega, rfl, hlt, p'⟩, fun x H' y => hs i x H H' hlt p (w.yields i H x H' hlt q y)⟩
  · have e : i = n := by omega
    subst e
    exact .inl ⟨w.stops H q, hd H p⟩
def entsP (p : Pr) : List Ent := p.map entT
def entsOf (S : Po) : List Ent := (S.map fun e => entsP e.1).flatten
theorem entsOf_take (S : Po) (i : Nat) (e : Pr × Addr × Int) (h : S[i]? = some e) : entsOf (S.take (i + 1)) = entsOf (S.take i) ++ entsP e.1 := by
  rw [List.take_add_one, h]
  simp [entsOf]
theorem entsOf_le (S : Po) (i : Nat) : (entsOf (S.take i)).length ≤ (entsOf S).length := by
  have e : entsOf S = entsOf (S.take i) ++ entsOf (S.drop i) := by
    unfold entsOf
    rw [← List.flatten_append, ← List.map_append, List.take_append_drop]
  rw [e, List.length_append]
  omega
def spUnk (P : Program) (w : World) (C : Addr) : Sp := fun vs H Q _ => ∃ (p : Addr) (S : Po), vs = [.ref p] ∧ WhO P w C H p S ∧ (entsOf S).length < 64 ∧
  ∀ H' t ts es, Same H H' → H' t = some (.tup (ts.map V.ref)) → Es H' ts es → AscE es → (∀ e, e ∈ es ↔ e ∈ entsOf S) → Q (.ref t) H'
/-- an entry is put behind -/
theorem es_put {H : Hp} {D m b : Addr} {ts : List Addr} {es : List Ent} {e : Ent} (hD : H D = some (.lst (ts.map V.ref))) (h : Es H ts es) (hm : H m = none) (hb : RowA H b e.2) :
    Es (upd (upd H m (.tup [.str e.1, .ref b])) D (.lst ((ts ++ [m]).map V.ref))) (ts ++ [m]) (es ++ [e]) := by
  have nm : m ≠ D := fun z => by rw [z, hD] at hm; cases hm
  have nb : b ≠ D := fun z => by
    have hb' : H b = some (.tup (e.2.map V.int)) := hb
    rw [z, hD] at hb'
    cases hb'
  have nbm : b ≠ m := fun z => by
    have hb' : H b = some (.tup (e.2.map V.int)) := hb
    rw [z, hm] at hb'
    cases hb'
  have s1 : Same H (upd H m (.tup [.str e.1, .ref b])) := Same.new _ hm
  refine Paired.snoc ((h.same s1).kd (fun xs z => ?_) Kd.put) ⟨b, ?_, ?_⟩
  · rw [upd_ne (Ne.symm nm), hD] at z
    cases z
  · rw [upd_ne nm, upd_same]
  · show upd _ _ _ b = _
    rw [upd_ne nb]
    exact s1 _ _ hb
section
variable {P : Program} {w : World} {K : PySem.W.Frag} {mg : Str → Option Value} {base : Heap} {C : Addr}
abbrev nUnk : List Str := ["self", "product", "triple"]
theorem scUnk : FnScope nUnk ["self"] (defScope (sW 2)) := ⟨rfl, rfl, rfl, by decide +kernel, rfl, by decide +kernel, by decide +kernel⟩
theorem ok_unk {f : Addr} {fd : FuncData} (F : Fun K "unknowns" "Whence.unknowns" (sW 2) f fd) (T : TWh K C) (B : TS K mg) : FnOk P w K mg base CX0 1 f fd ["self"] (spUnk P w C) := by
  refine F.ok scUnk (fun vs H Q E h => ?_) (fun cdv A outer s H vs Q E hr h => ?_)
  · obtain ⟨p, S, rfl, _⟩ := h
    rfl
  · obtain ⟨p, S, rfl, ⟨dp, ⟨dx, ep⟩, hd, srt, wf⟩, few, k⟩ := h
    refine ⟨_, pss_one (ps_ret (pe_callTy (T := "tuple") call_tuple_of (by rfl) B.tup (by decide +kernel) (pa_cons (pe_callB (cr_sortSet rfl hr.units) (by rfl) B.srt (by decide +kernel) (pa_cons (pe_callTy (T := "set") (cr_setOf rfl hr.units) (by rfl) B.set (by decide +kernel) (pa_cons
      (pe_lock (pe_lc2 (own := [("product", 1), ("triple", 2)]) (vs1 := [2]) (wi1 := iTup K (tVar 1)) (g := gName 1) (tt := tYes) (g1 := gName 2) (tt1 := tYes) rfl scUnk.nd (pi_nk (pe_fld (pv 0) rfl))
        (blkOk_by (N := nUnk) (sc := defScope (sW 2)) (by decide +kernel)) (by decide)
        (fun _ _ _ _ _ => pg_name (i := 1) scUnk.nd rfl (Or.inl rfl)) (fun _ _ _ _ _ => pts_nil)
        (fun _ _ _ _ _ => pi_tup (pv 1)) (fun _ _ _ _ _ => pg_name (i := 2) scUnk.nd rfl (Or.inl rfl)) (fun _ _ _ _ _ => pts_nil) (fun _ _ _ _ _ => pe_slice (r := rSlT K) sl_tup (pv 2) po_none (po_some pe_int)))) pa_nil)) pa_nil)) pa_nil))), ?_⟩
    refine ⟨dp, _, hd.1, True.intro, fun od => ?_⟩
    have np : p ≠ dp := fun z => by rw [z, hd.1] at ep; cases ep
    have ep1 : upd H dp (.frz od (DicN P w dp (S.map enP))) p = some (.ins C dx [("_parts", .ref dp)]) := by rw [upd_ne np]; exact ep
    have ks1 : Ks (upd H dp (.frz od (DicN P w dp (S.map enP)))) S := hd.2.kd (po_ne hd) kd_lock
    refine ⟨_, rfl, p, C, dx, _, _, rfl, ep1, T.cl, T.n1, look1 dp, dp, od, _, rfl, upd_same, fun D hD => walk_it (walk_nk (P := P) (w := w) (d := dp) (o := od) (M := S.map enP))
      (fun i H' => Same (upd H dp (.frz od (DicN P w dp (S.map enP)))) H' ∧ ∃ ts, H' D = some (.lst (ts.map V.ref)) ∧ Es H' ts (entsOf (S.take i))) ⟨Same.new _ hD, [], upd_same, by rw [List.take_zero]; exact .nil⟩ (fun i H' _ q => q.1 _ _ upd_same) ?_ ?_⟩
    · rintro i x H3 H4 hi ⟨s3, ts, hD3, es3⟩ ⟨rfl, e', he', rfl⟩
      rw [List.getElem?_map] at he'
      obtain ⟨e, he, rfl⟩ := Option.map_eq_some_iff.mp he'
      have em := List.mem_of_getElem? he
      obtain ⟨us, g1, g2⟩ := ks1 e em
      have lu : us.length = e.1.length := Paired.length g2
      have tot := entsOf_le S (i + 1)
      rw [entsOf_take S i e he, List.length_append] at tot
      refine ⟨rfl, ?_⟩
      dsimp only [tYes]
      rw [if_pos rfl]
      refine ⟨_, rfl, e.2.1, rfl, ⟨_, SqT.of (s3 _ _ g1)⟩, walk_it walk_tup (fun j H' => Same (upd H dp (.frz od (DicN P w dp (S.map enP)))) H' ∧ ∃ ts, H' D = some (.lst (ts.map V.ref)) ∧ Es H' ts (entsOf (S.take i) ++ (entsP e.1).take j))
        ⟨s3, ts, hD3, by rw [List.take_zero, List.append_nil]; exact es3⟩ (fun j H' _ q => SqT.of (q.1 _ _ g1)) ?_ ?_⟩
      · rintro j y H5 H6 hj ⟨s5, ts5, hD5, es5⟩ ⟨rfl, hy⟩
        rw [List.getElem?_map] at hy
        obtain ⟨t, ht, rfl⟩ := Option.map_eq_some_iff.mp hy
        obtain ⟨u, hu, q⟩ := paired_get g2 ht
        obtain ⟨b, q1, q2⟩ := q.same s5
        refine ⟨rfl, ?_⟩
        rw [if_pos rfl]
        refine ⟨_, rfl, 2, rfl, t, _, rfl, SqT.of q1, fun z => absurd (show HT.sIx 3 3 (some 2) = 3 from z.2) (by decide), fun m hm => ?_⟩
        rw [cut2]
        have nm : D ≠ m := fun z => by rw [← z, hD5] at hm; cases hm
        have l5 : ts5.length = _ := Paired.length es5
        rw [List.length_append, List.length_take] at l5
        have lp : (entsP e.1).length = e.1.length := List.length_map _
        refine ⟨_, by rw [upd_ne nm]; exact hD5, ?_, ?_, ts5 ++ [m], ?_, ?_⟩
        · rw [List.length_map, l5]
          exact small1000 (by omega)
        · intro c o eo
          have nc : c ≠ D := ne_of_none eo hD
          rw [upd_ne nc, upd_ne (ne_of_none (s5 _ _ eo) hm)]
          exact s5 _ _ eo
        · rw [upd_same, List.map_append]
          rfl
        · have z := es_put (e := entT u) hD5 es5 hm q2
          have hj2 : (entsP e.1)[j]? = some (entT u) := by
            unfold entsP
            rw [List.getElem?_map, hu]
            rfl
          rw [List.take_add_one, hj2, ← List.append_assoc]
          rw [List.map_append] at z
          exact z
      · rintro H5 ⟨s5, ts5, hD5, es5⟩
        rw [List.length_map, lu] at es5
        have lp : (entsP e.1).length = e.1.length := List.length_map _
        rw [← lp, List.take_length] at es5
        exact ⟨s5, ts5, hD5, by rw [entsOf_take S i e he]; exact es5⟩
    · rintro H5 ⟨s5, ts5, hD5, es5⟩
      rw [List.length_map, List.take_length] at es5
      obtain ⟨nd, hDn⟩ := locked hd.1 hD
      have us := unlocked hd.1 s5
      refine ⟨s5 _ _ upd_same, ?_⟩
      have hD6 : upd H5 dp (DicN P w dp (S.map enP)) D = some (.lst (ts5.map V.ref)) := by rw [upd_ne nd]; exact hD5
      have fz : ∀ xs, H5 dp ≠ some (.tup xs) := fun xs z => by
        rw [s5 _ _ upd_same] at z
        cases z
      have es6 : Es (upd H5 dp (DicN P w dp (S.map enP))) ts5 (entsOf S) := es5.kd fz Kd.put
      have l5 : ts5.length = (entsOf S).length := Paired.length es5
      dsimp only [tNil]
      refine asc_ents (K := K) (w := w) hD6 es6 (by omega) fun H7 q ts' es' s7 hq0 hq es7 asc mem => ?_
      refine ⟨q, _, rfl, .inl ⟨SqL.of hq, fun t ht => ?_⟩⟩
      have st : Same H7 (upd H7 t (.tup (ts'.map V.ref))) := Same.new _ ht
      exact k _ t ts' es' (Same.tr us (Same.tr s7 st)) upd_same (es7.same st) asc mem
end
end K0

/-! ## F9 -/
set_option maxRecDepth 100000
set_option maxHeartbeats 2000000
namespace K0
open PySem L2 NS ND RZ
/-! ### entries compared; _times_of -/
def dE (e : Ent) : PyData := .tuple [.str e.1, .tuple (e.2.map PyData.int)]
theorem dpAll_ints {K : PySem.W.Frag} {H : Hp} : ∀ l : List Int, DpAll K H (l.map V.int) (l.map PyData.int)
  | [] => .nil
  | _ :: l => .cons (.int _) (dpAll_ints l)
theorem EntA.dp {K : PySem.W.Frag} {H : Hp} {a : Addr} {e : Ent} (h : EntA H a e) : Dp K H (.ref a) (dE e) := by
  obtain ⟨b, h1, h2⟩ := h
  exact .tup (SqT.of h1) (.cons (.str _) (.cons (.tup (SqT.of h2) (dpAll_ints _)) .nil))
theorem eqv_ints : ∀ l m : List Int, PyData.eqvAll (l.map PyData.int) (m.map PyData.int) = decide (l = m)
  | [], [] => rfl
  | [], _ :: _ => rfl
  | _ :: _, [] => rfl
  | a :: l, b :: m => by
    rw [List.map_cons, List.map_cons, PyData.eqvAll, eqv_ints l m]
    have e : PyData.eqv (.int a) (.int b) = decide (a = b) := by
      show (a == b) = decide (a = b)
      exact Bool.eq_iff_iff.mpr (by simp)
    rw [e]
    by_cases c : a = b
    · subst c
      simp
    · rw [decide_eq_false c, Bool.false_and]
      exact (decide_eq_false fun h => c (by injection h)).symm
theorem dE_eqv (e e' : Ent) : PyData.eqv (dE e) (dE e') = decide (e = e') := by
  obtain ⟨a, r⟩ := e
  obtain ⟨b, q⟩ := e'
  show PyData.eqvAll [PyData.str a, .tuple (r.map PyData.int)] [PyData.str b, .tuple (q.map PyData.int)] = _
  have h1 : PyData.eqv (.str a) (.str b) = decide (a = b) := by
    show (a == b) = decide (a = b)
    exact Bool.eq_iff_iff.mpr (by simp)
  have h2 : PyData.eqv (.tuple (r.map PyData.int)) (.tuple (q.map PyData.int)) = decide (r = q) := by
    show PyData.eqvAll _ _ = _
    exact eqv_ints r q
  have h3 : PyData.eqvAll [] [] = true := rfl
  rw [PyData.eqvAll, PyData.eqvAll, h1, h2, h3, Bool.and_true]
  by_cases c1 : a = b
  · by_cases c2 : r = q
    · subst c1 c2
      simp
    · rw [decide_eq_false c2, Bool.and_false]
      exact (decide_eq_false fun h => c2 (by injection h)).symm
  · rw [decide_eq_false c1, Bool.false_and]
    exact (decide_eq_false fun h => c1 (by injection h)).symm
theorem nam_ok {z : Str} (h : nameS z = true) : PyData.strOk z = true := by
  unfold nameS at h
  rw [Bool.and_eq_true] at h
  unfold PyData.strOk
  rw [← Array.all_toList, List.all_eq_true]
  intro c hc
  have q := List.all_eq_true.mp h.2 c hc
  unfold lowC at q
  rw [Bool.and_eq_true] at q
  have := of_decide_eq_true q.2
  exact decide_eq_true (by omega)
theorem lay_ints : ∀ l : List Int, PyData.canLayAll0 (l.map PyData.int) = true
  | [] => rfl
  | _ :: l => by
    rw [List.map_cons, PyData.canLayAll0, lay_ints l]
    rfl
theorem depth_ints : ∀ l : List Int, PyData.depthAll (l.map PyData.int) = 0
  | [] => rfl
  | _ :: l => by
    rw [List.map_cons, PyData.depthAll, depth_ints l]
    rfl
theorem dE_lay {e : Ent} (h : nameS e.1 = true) : (dE e).canLay0 = true := by
  unfold dE
  simp only [PyData.canLay0, PyData.canLayAll0, nam_ok h, lay_ints, Bool.and_true]
theorem dE_depth (e : Ent) : (dE e).depth = 2 := by
  unfold dE
  simp [PyData.depth, PyData.depthAll, depth_ints]
theorem dE_shaped {e : Ent} (h : nameS e.1 = true) : SeqAt.shaped (dE e) = true := by
  unfold SeqAt.shaped
  rw [dE_lay h, dE_depth]
  rfl
abbrev sTimes : Stmt := top 24
/-- how many times -/
def timesOf (p : Pr) (e : Ent) : Int := ((p.filter fun t => decide (entT t = e)).map fun t => t.2.2).sum
def spTimes : Sp := fun vs H Q _ => ∃ (a b : Addr) (p : Pr) (e : Ent), vs = [.ref a, .ref b] ∧ ProA H a p ∧ EntA H b e ∧ (∀ t ∈ p, nameS t.1 = true) ∧ nameS e.1 = true ∧ p.length ≤ 1000 ∧ ∀ H', Same H H' → Q (.int (timesOf p e)) H'
section
variable {P : Program} {w : World} {K : PySem.W.Frag} {mg : Str → Option Value} {base : Heap}
abbrev nTimes : List Str := ["product", "pair", "triple"]
theorem scTimes : FnScope nTimes ["product", "pair"] (defScope sTimes) := ⟨rfl, rfl, rfl, by decide +kernel, rfl, by decide +kernel, by decide +kernel⟩
theorem ok_times {f : Addr} {fd : FuncData} (F : Fun K "_times_of" "_times_of" sTimes f fd) (B : TS K mg) : FnOk P w K mg base CX0 1 f fd ["product", "pair"] spTimes := by
  refine F.ok scTimes (fun vs H Q E h => ?_) (fun cdv A outer s H vs Q E hr h => ?_)
  · obtain ⟨a, b, p, e, rfl, _⟩ := h
    rfl
  · obtain ⟨a, b, p, e, rfl, hp, he, nt, ne, few, k⟩ := h
    obtain ⟨ts, h1, h2⟩ := hp
    have lt : ts.length = p.length := Paired.length h2
    refine ⟨_, pss_one (ps_ret (pe_callB (cr_sum rfl) (by rfl) B.sum (by decide +kernel) (pa_cons (pe_lc (own := [("triple", 2)]) (g := gName 2) rfl scTimes.nd (pi_tup (pv 0))
        (blkOk_by (own := [("triple", 2)]) (N := nTimes) (sc := defScope sTimes) (by decide +kernel)) (fun _ _ _ _ _ => pg_name (i := 2) scTimes.nd rfl (Or.inl rfl))
        (fun _ _ _ _ _ => pts_one (pt_cmpR (r := rEqD K) (op_eqD hr.units) (pe_slice (r := rSlT K) sl_tup (pv 2) po_none (po_some pe_int)) (pv 1) (nomark _)))
        (fun _ _ _ _ _ => pe_ix (r := rIxT K) ix_tup (pv 2) pe_int (fun _ _ => rfl))) pa_nil))), ?_⟩
    have lz : (ts.map V.ref).length = p.length := by rw [List.length_map, lt]
    refine ⟨_, rfl, a, rfl, ⟨_, SqT.of h1⟩, fun D hD => lc_it (walk_tup (K := K) (a := a) (xs := ts.map V.ref)) (fun i H' => Same H H' ∧ H' D = some (.lst (((p.take i).filter fun t => decide (entT t = e)).map fun t => V.int t.2.2))) ⟨Same.new _ hD, upd_same⟩ (fun i H' _ q => SqT.of (q.1 _ _ h1)) ?_ ?_⟩
    · rintro i x H3 H4 hi ⟨s3, hD3⟩ ⟨rfl, hx⟩
      rw [List.getElem?_map] at hx
      obtain ⟨t, ht, rfl⟩ := Option.map_eq_some_iff.mp hx
      obtain ⟨u, hu, q⟩ := paired_get h2 ht
      obtain ⟨b', q1, q2⟩ := q.same s3
      have um := List.mem_of_getElem? hu
      refine ⟨rfl, _, rfl, 2, rfl, t, _, rfl, SqT.of q1, fun z => absurd (show HT.sIx 3 3 (some 2) = 3 from z.2) (by decide), fun m hm => ?_⟩
      rw [cut2]
      have sm : Same H4 (upd H4 m (.tup [.str u.1, .ref b'])) := Same.new _ hm
      have em : EntA (upd H4 m (.tup [.str u.1, .ref b'])) m (entT u) := ⟨b', upd_same, sm _ _ q2⟩
      have nm : D ≠ m := fun z => by rw [← z, hD3] at hm; cases hm
      refine ⟨_, rfl, dE (entT u), dE e, em.dp, ((he.same s3).same sm).dp, dE_shaped (nt u um), dE_shaped ne, _, rfl, ?_⟩
      rw [dE_eqv]
      have tk : p.take (i + 1) = p.take i ++ [u] := by rw [List.take_add_one, hu]; rfl
      by_cases c : entT u = e
      · rw [decide_eq_true c]
        refine if_pos_of rfl ⟨_, rfl, t, _, _, .int u.2.2, rfl, rfl, SqT.of (sm _ _ q1), rfl, _, by rw [upd_ne nm]; exact hD3, ?_, ?_, ?_⟩
        · rw [List.length_map]
          refine small1000 (Nat.le_trans (List.length_filter_le _ _) ?_)
          rw [List.length_take]
          omega
        · intro o ob eo
          rw [upd_ne (ne_of_none eo hD), upd_ne (ne_of_none (s3 _ _ eo) hm)]
          exact s3 _ _ eo
        · rw [upd_same, tk, List.filter_append, List.map_append]
          simp [c]
      · rw [decide_eq_false c]
        refine if_neg_of rfl ⟨Same.tr s3 sm, ?_⟩
        rw [upd_ne nm, tk, List.filter_append, hD3]
        simp [c]
    · rintro H5 ⟨s5, hD5⟩
      rw [lz, List.take_length] at hD5
      refine ⟨D, (p.filter fun t => decide (entT t = e)).map (fun t : Tri => t.2.2), rfl, ?_, k _ s5⟩
      rw [List.map_map]
      exact SqL.of hD5
end
end K0

/-! ## F10 -/
set_option maxRecDepth 100000
set_option maxHeartbeats 2000000
namespace K0
open PySem L2 NS ND RZ
/-! ### needed -/
def inAll (S : Po) (e : Ent) : Bool := S.all fun x => decide (0 < timesOf x.1 e)
def neededOf : Po → List Ent
  | [] => []
  | x :: S => (entsP x.1).filter (inAll (x :: S))
def spNeed (P : Program) (w : World) (C : Addr) : Sp := fun vs H Q _ => ∃ (p : Addr) (S : Po), vs = [.ref p] ∧ WhO P w C H p S ∧
  ∀ H' t ts, Same H H' → H' t = some (.tup (ts.map V.ref)) → Es H' ts (neededOf S) → Q (.ref t) H'
theorem WfP.names {p : Pr} (w : WfP p) : ∀ t ∈ p, nameS t.1 = true := fun t ht => (w.tri t ht).nam
abbrev scNeedIn : Scope := { kind := ScopeKind.function, names := [(".0", NameKind.local), ("pair", NameKind.cell), ("all", NameKind.globalImplicit), ("products", NameKind.cell)], isGenerator := false, isCoroutine := false }
abbrev d0 : Pr × Addr × Int := ([], 0, 0)
theorem all_at (S : Po) (f : Pr × Addr × Int → Bool) : ((List.range S.length).map fun i => f (S.getD i d0)).all id = S.all f := by
  rw [List.all_map]
  have e : S = (List.range S.length).map fun i => S.getD i d0 := by
    apply List.ext_getElem?
    intro i
    rw [List.getElem?_map]
    by_cases h : i < S.length
    · rw [List.getElem?_range h]
      simp [h]
    · rw [List.getElem?_eq_none (by omega), List.getElem?_eq_none (by rw [List.length_range]; omega)]
      rfl
  conv => rhs; rw [e, List.all_map]
  rfl
theorem at_head (v : V) (r : List V) : atI (v :: r) 0 = some v := by
  unfold atI ixN
  simp
theorem es_filter {H : Hp} (f : Ent → Bool) : ∀ {ts : List Addr} {es : List Ent}, Es H ts es → Es H (((ts.zip es).filter fun z => f z.2).map fun z => z.1) (es.filter f)
  | _, _, .nil => .nil
  | _, _, .cons (a := t) (b := e) h r => by
    rw [List.zip_cons_cons, List.filter_cons, List.filter_cons]
    by_cases c : f e = true
    · rw [if_pos c, if_pos c]
      exact .cons h (es_filter f r)
    · rw [if_neg c, if_neg c]
      exact es_filter f r
theorem refs_enP (S : Po) : ((S.map enP).map fun e => V.ref e.2.1) = S.map fun e => V.ref e.2.1 := by rw [List.map_map]; rfl
section
variable {P : Program} {w : World} {K : PySem.W.Frag} {mg : Str → Option Value} {base : Heap} {C fT : Addr} {fdT : FuncData}
abbrev nNeed : List Str := ["self", "products", "pairs", "triple", "pair", "product"]
theorem scNeed : FnScope nNeed ["self"] (defScope (sW 4)) := ⟨rfl, rfl, rfl, by decide +kernel, rfl, by decide +kernel, by decide +kernel⟩
theorem ok_need {f : Addr} {fd : FuncData} (F : Fun K "needed" "Whence.needed" (sW 4) f fd) (T : TWh K C) (B : TS K mg)
    (eT : Glo K mg "_times_of" fT) (GT : FnOk P w K mg base CX0 1 fT fdT ["product", "pair"] spTimes) (bT : Binds K fdT ["product", "pair"] []) : FnOk P w K mg base CX0 2 f fd ["self"] (spNeed P w C) := by
  refine F.ok scNeed (fun vs H Q E h => ?_) (fun cdv A outer s H vs Q E hr h => ?_)
  · obtain ⟨p, S, rfl, _⟩ := h
    rfl
  · obtain ⟨p, S, rfl, ⟨dp, ⟨dx, ep⟩, hd, srt, wf⟩, k⟩ := h
    refine ⟨_, pss_cons (ps_set (i := 1) scNeed.nd rfl (Or.inr rfl) (pe_callTy (T := "list") (cr_nlist rfl) (by rfl) B.lst (by decide +kernel) (pa_cons (pe_fld (pv 0) rfl) pa_nil)))
      (pss_cons (ps_if (pt_not (pt_truth (pv 1) (fun _ => rfl))) (pss_one (ps_ret (pe_tup pa_nil))) pss_nil)
      (pss_cons (ps_setLc (i := 2) (own := [("triple", 3)]) (g := gName 3) (tt := tYes) (by rfl) scNeed.nd rfl rfl (sw_true rfl rfl rfl (by decide +kernel)) (pi_tup (pe_ix ix_list (pv 1) pe_int (fun _ _ => rfl)))
          (blkOk_by (own := [("triple", 3)]) (N := nNeed) (sc := defScope (sW 4)) (by decide +kernel)) (fun _ _ _ _ _ => pg_name (i := 3) scNeed.nd rfl (Or.inl rfl)) (fun _ _ _ _ _ => pts_nil)
          (fun _ _ _ _ _ => pe_slice (r := rSlT K) sl_tup (pv 3) po_none (po_some pe_int)))
      (pss_one (ps_ret (pe_callTy (T := "tuple") call_tuple_of (by rfl) B.tup (by decide +kernel) (pa_cons
        (pe_lc (own := [("pair", 4)]) (g := gName 4) (te := tVar 4) rfl scNeed.nd (pi_list (pv 2))
          (blkOk_by (own := [("pair", 4)]) (N := nNeed) (sc := defScope (sW 4)) (by decide +kernel)) (fun _ _ _ _ _ => pg_name (i := 4) scNeed.nd rfl (Or.inr rfl))
          (fun _ _ _ _ _ => pts_one (pt_val (t := tCB (rAll K) (tCons (tLc (iList K (tVar 1)) (gName 5) tYes (tOp (rI0 fun i j => V.bl (decide (j < i))) (tCall spTimes [] E0 (tCons (tVar 5) (tCons (tVar 4) tNil))) (tC (.int 0))) [5]) tNil)) (pe_callB (cr_all rfl) (by rfl) B.all (by decide +kernel) (pa_cons
            (pe_lc (own := [("product", 5)]) rfl scNeed.nd (pi_list (pv 1))
              (blkOk_by (own := [("product", 5)]) (N := nNeed) (sc := scNeedIn) (by decide +kernel)) (fun _ _ _ _ _ => pg_name (i := 5) scNeed.nd rfl (Or.inl rfl)) (fun _ _ _ _ _ => pts_nil)
              (fun _ _ _ _ _ => pe_cmpR op_gt (pe_call GT hr (by rfl) eT.g eT.k bT .nil pass0 (pa_cons (pv 5) (pa_cons (pv 4) pa_nil))) pe_int (nomark _))) pa_nil))))
          (fun _ _ _ _ _ => pv 4)) pa_nil)))))), ?_⟩
    refine ⟨_, rfl, p, C, dx, _, _, rfl, ep, T.cl, T.n1, look1 dp, dp, _, rfl, .inl hd.1, fun l hl => ?_⟩
    rw [refs_enP]
    have sl : Same H (upd H l (.lst (S.map fun e => V.ref e.2.1))) := Same.new _ hl
    refine ⟨_, rfl, _, .inl ⟨_, SqL.of upd_same, rfl⟩, ?_⟩
    cases S with
    | nil => exact if_pos_of rfl ⟨Nat.zero_le _, fun t ht => k _ t [] (Same.tr sl (Same.new _ ht)) upd_same .nil⟩
    | cons x S =>
      refine if_neg_of rfl ?_
      have wx := wf.pro x List.mem_cons_self
      have ks := hd.2.same sl
      obtain ⟨us, g1, g2⟩ := ks x List.mem_cons_self
      have lu : us.length = x.1.length := Paired.length g2
      have fx := wx.few
      refine ⟨_, rfl, l, _, _, V.ref x.2.1, rfl, rfl, SqL.of upd_same, at_head _ _, x.2.1, rfl, ⟨_, SqT.of g1⟩, fun D hD => lc_it (walk_tup (K := K) (a := x.2.1) (xs := us.map V.ref)) (fun i H' => Same (upd H l (.lst ((x :: S).map fun e => V.ref e.2.1))) H' ∧ ∃ ts, H' D = some (.lst (ts.map V.ref)) ∧ Es H' ts ((entsP x.1).take i))
        ⟨Same.new _ hD, [], upd_same, by rw [List.take_zero]; exact .nil⟩ (fun i H' _ q => SqT.of (q.1 _ _ g1)) ?_ ?_⟩
      · rintro i y H3 H4 hi ⟨s3, ts3, hD3, es3⟩ ⟨rfl, hy⟩
        rw [List.getElem?_map] at hy
        obtain ⟨t, ht, rfl⟩ := Option.map_eq_some_iff.mp hy
        obtain ⟨u, hu, q⟩ := paired_get g2 ht
        obtain ⟨b, q1, q2⟩ := q.same s3
        refine ⟨rfl, ?_⟩
        dsimp only [tYes]
        rw [if_pos rfl]
        refine ⟨_, rfl, 2, rfl, t, _, rfl, SqT.of q1, fun z => absurd (show HT.sIx 3 3 (some 2) = 3 from z.2) (by decide), fun m hm => ?_⟩
        rw [cut2]
        have nm : D ≠ m := fun z => by rw [← z, hD3] at hm; cases hm
        have l3 : ts3.length = _ := Paired.length es3
        rw [List.length_take] at l3
        have lp : (entsP x.1).length = x.1.length := List.length_map _
        refine ⟨_, by rw [upd_ne nm]; exact hD3, ?_, ?_, ts3 ++ [m], ?_, ?_⟩
        · rw [List.length_map, l3]
          exact small1000 (by omega)
        · intro c o eo
          rw [upd_ne (ne_of_none eo hD), upd_ne (ne_of_none (s3 _ _ eo) hm)]
          exact s3 _ _ eo
        · rw [upd_same, List.map_append]
          rfl
        · have z := es_put (e := entT u) hD3 es3 hm q2
          have hj2 : (entsP x.1)[i]? = some (entT u) := by
            unfold entsP
            rw [List.getElem?_map, hu]
            rfl
          rw [List.take_add_one, hj2]
          rw [List.map_append] at z
          exact z
      · rintro H3 ⟨s3, ts3, hD3, es3⟩
        have lp : (entsP x.1).length = x.1.length := List.length_map _
        rw [List.length_map, lu, ← lp, List.take_length] at es3
        have l3 : ts3.length = (entsP x.1).length := Paired.length es3
        refine ⟨_, rfl, D, rfl, ⟨_, SqL.of hD3⟩, fun D2 hD2 => lc_it (walk_list (K := K) (a := D) (xs := ts3.map V.ref)) (fun i H' => Same H3 H' ∧ H' D2 = some (.lst ((((ts3.zip (entsP x.1)).take i).filter fun z => inAll (x :: S) z.2).map fun z => V.ref z.1)))
          ⟨Same.new _ hD2, upd_same⟩ (fun i H' _ q => SqL.of (q.1 _ _ hD3)) ?_ ?_⟩
        · rintro i y H5 H6 hi ⟨s5, hD5⟩ ⟨rfl, hy⟩
          rw [List.getElem?_map] at hy
          obtain ⟨t, ht, rfl⟩ := Option.map_eq_some_iff.mp hy
          obtain ⟨e, he, ea⟩ := paired_get es3 ht
          have ea5 := ea.same s5
          have em := List.mem_of_getElem? he
          obtain ⟨u, um, ue⟩ := List.mem_map.mp em
          have ne : nameS e.1 = true := by
            rw [← ue]
            exact wx.names u um
          have s15 : Same (upd H l (.lst ((x :: S).map fun e => V.ref e.2.1))) H6 := Same.tr s3 s5
          have k6 := ks.same s15
          have hl6 : H6 l = some (.lst ((x :: S).map fun e => V.ref e.2.1)) := s15 _ _ upd_same
          have zt : (ts3.zip (entsP x.1)).take (i + 1) = (ts3.zip (entsP x.1)).take i ++ [(t, e)] := by
            have z : (ts3.zip (entsP x.1))[i]? = some (t, e) := List.getElem?_zip_eq_some.mpr ⟨ht, he⟩
            rw [List.take_add_one, z]
            rfl
          refine ⟨rfl, _, rfl, l, rfl, ⟨_, SqL.of hl6⟩, fun D3 hD3' => lc_pure (f := fun j => .bl (decide (0 < timesOf ((x :: S).getD j d0).1 e))) (walk_list (K := K) (a := l) (xs := (x :: S).map fun e => V.ref e.2.1)) ?_ hD3' (fun H1 s1 => SqL.of (s1 _ _ hl6)) ?_ gName_mono ?_⟩
          · rw [List.length_map]
            exact small1000 (by have := wf.few; omega)
          · rintro j z H7 H8 hj s7 ⟨rfl, hz⟩
            rw [List.getElem?_map] at hz
            obtain ⟨v, hv, rfl⟩ := Option.map_eq_some_iff.mp hz
            have vm := List.mem_of_getElem? hv
            have ev : (x :: S).getD j d0 = v := by simp [List.getD, hv]
            refine ⟨rfl, fun Q' q => ⟨_, rfl, _, rfl, _, t, v.1, e, rfl, (k6 v vm).same s7, ea5.same s7, (wf.pro v vm).names, ne, (wf.pro v vm).few, fun H9 s9 => ⟨_, _, rfl, rfl, ?_⟩⟩⟩
            have q0 := q H9 s9
            rw [ev] at q0
            exact q0
          · intro H7 s7 hD7
            refine ⟨D3, (List.range (x :: S).length).map fun j => decide (0 < timesOf ((x :: S).getD j d0).1 e), rfl, ?_, ?_⟩
            · rw [List.map_map]
              rw [List.length_map] at hD7
              exact SqL.of hD7
            · rw [all_at (x :: S) fun v => decide (0 < timesOf v.1 e)]
              have nD : D2 ≠ D3 := fun z => by rw [← z, hD5] at hD3'; cases hD3'
              have hD57 : H7 D2 = _ := s7 _ _ hD5
              refine ⟨_, rfl, ?_⟩
              by_cases c : inAll (x :: S) e = true
              · refine if_pos_of c ⟨_, rfl, _, hD57, ?_, ?_, ?_⟩
                · rw [List.length_map]
                  refine small1000 (Nat.le_trans (List.length_filter_le _ _) ?_)
                  rw [List.length_take, List.length_zip]
                  omega
                · intro o ob eo
                  rw [upd_ne (ne_of_none eo hD2)]
                  exact s7 _ _ (s5 _ _ eo)
                · rw [upd_same, zt, List.filter_append, List.map_append]
                  simp [c]
              · refine if_neg_of (Bool.eq_false_iff.mpr c) ⟨Same.tr s5 s7, ?_⟩
                rw [hD57, zt, List.filter_append]
                simp [c]
        · rintro H5 ⟨s5, hD5⟩
          have full : (ts3.zip (entsP x.1)).take (ts3.map V.ref).length = ts3.zip (entsP x.1) := by
            refine List.take_of_length_le ?_
            rw [List.length_zip, List.length_map]
            omega
          rw [full] at hD5
          have e6 := es_filter (inAll (x :: S)) (es3.same s5)
          refine ⟨D2, _, rfl, .inl ⟨SqL.of hD5, fun t ht => ?_⟩⟩
          have st : Same H5 (upd H5 t (.tup (((ts3.zip (entsP x.1)).filter fun z => inAll (x :: S) z.2).map fun z => V.ref z.1))) := Same.new _ ht
          refine k _ t _ (Same.tr sl (Same.tr s3 (Same.tr s5 st))) ?_ (e6.same st)
          rw [upd_same, List.map_map]
          rfl
end
end K0

/-! ## F11 -/
set_option maxRecDepth 100000
set_option maxHeartbeats 2000000
namespace K0
open PySem L2 NS ND RZ
/-! ### in, iter -/
def hasP (S : Po) (q : Pr) : Bool := S.any fun e => decide (e.1 = q)
theorem valN_has (S : Po) (q : Pr) : (valN (S.map enP) (kP q)).isSome = hasP S q := by
  refine Bool.eq_iff_iff.mpr ?_
  rw [valN_some]
  unfold hasP
  rw [List.any_eq_true]
  constructor
  · intro h
    obtain ⟨x, hx, e⟩ := List.mem_map.mp h
    obtain ⟨u, hu, rfl⟩ := List.mem_map.mp hx
    exact ⟨u, hu, decide_eq_true (kP_inj e)⟩
  · rintro ⟨u, hu, e⟩
    exact List.mem_map.mpr ⟨enP u, List.mem_map.mpr ⟨u, hu, rfl⟩, by rw [← of_decide_eq_true e]; rfl⟩
def spCont (P : Program) (w : World) (K : PySem.W.Frag) (C : Addr) : Sp := fun vs H Q _ => ∃ (p : Addr) (S : Po) (v : V), vs = [.ref p, v] ∧ WhO P w C H p S ∧
  ((PdV K H v false ∧ ∀ H', Same H H' → Q (.bl false) H') ∨ ∃ a q, v = .ref a ∧ ProA H a q ∧ WfP q ∧ ∀ H', Same H H' → Q (.bl (hasP S q)) H')
section
variable {P : Program} {w : World} {K : PySem.W.Frag} {mg : Str → Option Value} {base : Heap} {C fP : Addr} {fdP : FuncData}
theorem scCont : FnScope ["self", "value"] ["self", "value"] (defScope (sW 12)) := ⟨rfl, rfl, rfl, by decide +kernel, rfl, by decide +kernel, by decide +kernel⟩
theorem ok_cont {f : Addr} {fd : FuncData} (F : Fun K "__contains__" "Whence.__contains__" (sW 12) f fd) (T : TWh K C)
    (eP : Glo K mg "_is_product" fP) (GP : FnOk P w K mg base CX0 6 fP fdP ["value"] (spIsPd K)) (bP : Binds K fdP ["value"] []) : FnOk P w K mg base CX0 7 f fd ["self", "value"] (spCont P w K C) := by
  refine F.ok scCont (fun vs H Q E h => ?_) (fun cdv A outer s H vs Q E hr h => ?_)
  · obtain ⟨p, S, v, rfl, _⟩ := h
    rfl
  · obtain ⟨p, S, v, rfl, W0, h⟩ := h
    refine ⟨_, pss_one (ps_ret (pe_and (pe_call GP hr (by rfl) eP.g eP.k bP .nil pass0 (pa_cons (pv 1) pa_nil)) (pe_one (pe_cmpR (op_nin (u9 hr)) (pv 1) (pe_fld (pv 0) rfl) rfl)))), ?_⟩
    rcases h with ⟨no, k⟩ | ⟨a, q, rfl, hq, wq, k⟩
    · exact ⟨_, rfl, v, _, rfl, no, fun H1 s1 => ⟨_, rfl, if_neg_of rfl (k H1 s1)⟩⟩
    · refine ⟨_, rfl, _, _, rfl, hq.pdV wq, fun H1 s1 => ⟨_, rfl, if_pos_of rfl ?_⟩⟩
      obtain ⟨dp, ⟨dx, ep⟩, hd, srt, wf⟩ := W0.same s1
      refine ⟨_, rfl, _, rfl, p, C, dx, _, _, rfl, ep, T.cl, T.n1, look1 dp, dp, a, _, kP q, rfl, rfl, .inl hd.1, hd.2.keyed, (hq.same s1).kr, ?_⟩
      rw [valN_has]
      exact k H1 s1
end
end K0

/-! ## F12 -/
set_option maxRecDepth 100000
set_option maxHeartbeats 2000000
namespace ND
open PySem PySem.Spec PyProof.Rows L2 NS ItX K0
/-! ### iter(d), and list(o) where o's __iter__ gives it -/
/-- a fresh iterator of the keys of the locked dict -/
def KitO (it d : Addr) (od : Obj) (n : Nat) : HO := .ext fun h => ∃ (es : Array DictEntry) (ep : Nat), od.data = .dict es ep ∧ h.IsKeyIter it d 0 n ep
theorem kitO_ok {P : Program} {w : World} {H : Hp} {h : Heap} {d it : Addr} {od : Obj} {n : Nat} {es : Array DictEntry} {ep : Nat} (hd : od.data = .dict es ep) (e : h.IsKeyIter it d 0 n ep) : ObjOk P w H h it (KitO it d od n) := by
  obtain ⟨o, ho, r⟩ := id e
  refine ⟨⟨es, ep, hd, e⟩, ⟨o, ho⟩, fun h1 h2 q k => ?_⟩
  obtain ⟨es1, ep1, q1, o1, a1, a2⟩ := q
  exact ⟨es1, ep1, q1, o1, k _ a1, a2⟩
def rIterD (P : Program) (w : World) (n : Nat) : List V → Hp → VK → Prop := fun xs H Q => ∃ (d : Addr) (od : Obj) (M : List En), xs = [.ref d] ∧ H d = some (.frz od (DicN P w d M)) ∧ ∀ it, H it = none → n ≤ it → Q (.ref it) (upd H it (KitO it d od M.length))
section
variable {X : Cx}
theorem cr_iterD : CallR X (.builtin "iter") (rIterD X.prog X.w X.s_0.heap.objs.size) := by
  intro pins s σ H xs us Q I r h
  obtain ⟨d, od, M, rfl, hd, q⟩ := h
  rw [Vals.ref1 r]
  obtain ⟨hs, hgd, hx, es, ep, hdt, hsz, ent⟩ := frzN I hd
  refine Calls.call_function_entry (by decide +kernel) (by decide +kernel) PySem.W.kdk_entry_iter (PySem.W.kdk_args_iter _) ?_
  unfold Builtin.«iter»
  refine wpAny_bind (m := someArgs "iter" 1 2 _) (wpAny_of_eq (a := [Value.ref d]) (by first | rfl | kernel_rfl!) ?_)
  show wpAny _ _ (pyIter (.ref d) >>= _) _ _ _
  refine wpAny_bind (wpAny_pyIter_dict_raw hs ⟨od, hgd, hx, hdt⟩ ?_)
  refine wpAny_pure ⟨_, rfl, .ref s.heap.objs.size, _, I.laid (t' := s.toks) (fun b u e => Heap.get?_push_of_some _ e) (Nat.le_refl _) (kitO_ok (n := M.length) hdt ⟨_, Heap.get?_push_size _ rfl, rfl, ?_⟩), rfl, q _ (I.hok.fresh (Nat.le_refl _)) I.sz⟩
  rw [hsz]
  rfl
end
/-- what such an __iter__ promises: fld holds the locked dict -/
def spIterD (P : Program) (w : World) (C : Addr) (fld : Str) : Nat → Sp := fun n vs H Q _ => ∃ (a dx : Addr) (fs : List (Str × V)) (d : Addr) (od : Obj) (M : List En), vs = [.ref a] ∧ H a = some (.ins C dx fs) ∧ fs.lookup fld = some (.ref d) ∧ H d = some (.frz od (DicN P w d M)) ∧
  ∀ it, H it = none → n ≤ it → Q (.ref it) (upd H it (KitO it d od M.length))
structure ItdC (X : Cx) (n : Nat) (C g : Addr) (fld : Str) : Prop where
  at_ : PySem.W.findIn X.K (.ref C) "__iter__" = some (some (.ref g))
  fn : PySem.W.isFn X.K (.ref g) = true
  ok : FnS X.prog X.w X.K X.mg X.base CX0 n g (spIterD X.prog X.w C fld)
/-- the length that it tells, locked or not -/
def spLenD (P : Program) (w : World) (K : PySem.W.Frag) (C : Addr) (fld : Str) : Sp := fun vs H Q _ => ∃ (a dx : Addr) (fs : List (Str × V)) (d : Addr) (M : List En), vs = [.ref a] ∧ H a = some (.ins C dx fs) ∧ fs.lookup fld = some (.ref d) ∧ Rd H d (DicN P w d M) ∧ Keyed K H M ∧ Q (.int M.length) H
structure LndC (X : Cx) (n : Nat) (C g : Addr) (fld : Str) : Prop where
  at_ : PySem.W.findIn X.K (.ref C) "__len__" = some (some (.ref g))
  fn : PySem.W.isFn X.K (.ref g) = true
  ok : FnR X.prog X.w X.K X.mg X.base CX0 n g (spLenD X.prog X.w X.K C fld)
section
variable {X : Cx} {pins : List (Addr × Obj)} {σ : L2.St} {H : Hp} {s : Shared} {A : Around} {n : Nat} {C g gl a q d it dx : Addr} {fld : Str} {fs : List (Str × V)} {M : List En} {od : Obj}
theorem own_iterD {E' : Value → Shared → Prop} {Q : Value → Shared → Prop} (sb : Sub X n A) (T : ItdC X n C g fld) (I : Inv X pins σ H s) (ha : H a = some (.ins C dx fs)) (hf : fs.lookup fld = some (.ref d)) (hd : H d = some (.frz od (DicN X.prog X.w d M)))
    (h : ∀ it s', Inv X pins σ (upd H it (KitO it d od M.length)) s' → H it = none → X.s_0.heap.objs.size ≤ it → Q (.ref it) s') : wpAny (model X.prog X.w) A (pyIter (.ref a)) Q E' s := by
  obtain ⟨mA, J, _⟩ := ins_get I.hok ha
  obtain ⟨ob, J, _⟩ := J.look
  obtain ⟨m, hF⟩ := I.fr
  refine PySem.W.owit_iter hF I.ok.mod.kin J T.at_ T.fn ?_
  have told : spIterD X.prog X.w C fld s.heap.objs.size [.ref a] H (fun v H' => ∃ it, v = .ref it ∧ H' = upd H it (KitO it d od M.length) ∧ H it = none ∧ s.heap.objs.size ≤ it) (fun _ _ _ => False) :=
    ⟨a, dx, fs, d, od, M, rfl, ha, hf, hd, fun it h1 h2 => ⟨it, rfl, rfl, h1, h2⟩⟩
  refine wpAny_call (codeAny_mono (T.ok A X.stack s H [.ref a] [.ref a] _ _ sb.room (sub_env sb I) (.cons rfl .nil) told) fun r s' hq => ?_)
  cases r with
  | error e => exact False.elim hq
  | ok fl =>
    cases fl with
    | next => exact False.elim hq
    | brk => exact False.elim hq
    | cont => exact False.elim hq
    | ret u =>
      obtain ⟨v, H', I', rv, it, ev, eH, hn, hz⟩ := I.after hq
      subst ev eH
      cases rv
      obtain ⟨es, ep, _, st⟩ := (I'.hok it _ upd_same).1
      show wpAny _ _ (specialOf (.ref it) "__next__") _ _ _
      refine wpAny_specialOf (name := Str.ofString "__next__") st.typeIs F.slot_dict_keyiterator_next.lookup ?_
      exact h it s' I' hn (Nat.le_trans I.sz hz)
theorem kit_drop (I : Inv X pins σ (upd H it (KitO it d od n)) s) (hn : H it = none) (hz : X.s_0.heap.objs.size ≤ it) : Inv X pins σ H s ∧ FpOk X pins H it ∧ ∃ (es : Array DictEntry) (ep : Nat), od.data = .dict es ep ∧ s.heap.IsKeyIter it d 0 n ep := by
  have hi : upd H it (KitO it d od n) it = some (KitO it d od n) := upd_same
  have st := (I.hok it _ hi).1
  have hi' := hi
  unfold KitO at hi'
  have Id := inv_drop I hi'
  have fp := inv_fp I hi' hz
  have eD : dropH (upd H it (KitO it d od n)) it = H := dropH_upd hn
  rw [eD] at Id fp
  exact ⟨Id, fp, st⟩
/-- the list is filled with the keys -/
theorem key_loop {Rs : Result → Shared → Prop} {A1 : Around} {es : Array DictEntry} {ep : Nat} (hh : A1.in1.handled = none) (few : M.length ≤ sizeLine) (hq : H q = none) (hd : H d = some (.frz od (DicN X.prog X.w d M))) (hdt : od.data = .dict es ep) (fp : FpOk X pins H it) (hqi : it ≠ q)
    (done : ∀ s, Inv X pins σ (upd H q (.lst (M.map fun e => V.ref e.2.1))) s → Rs (.ok (.ret .none)) s) :
    ∀ (k i : Nat) (s : Shared), i + k = M.length → Inv X pins σ (upd H q (.lst ((M.take i).map fun e => V.ref e.2.1))) s → s.heap.IsKeyIter it d i M.length ep → codeAny (model X.prog X.w) A1 (.builtin "list.extend.loop" ⟨[.ref q, .ref it, .none], []⟩) Rs s := by
  have ndq : d ≠ q := fun z => by rw [z, hq] at hd; cases hd
  intro k
  induction k with
  | zero =>
    intro i s hi I st
    have e : M.take i = M := List.take_of_length_le (by omega)
    rw [e] at I
    refine codeAny_builtin PySem.F.entry_extend_loop ?_; rw [Around.under_plainId PySem.F.plain_extend_loop _]
    show wpAny _ A1.in1 (pyNext (.ref it) >>= _) _ _ s
    obtain ⟨hs, hgd, hx, es', ep', hdt', hsz, ent⟩ := frzN (H := upd H q (.lst (M.map fun e => V.ref e.2.1))) I (by rw [upd_ne ndq]; exact hd)
    obtain ⟨rfl, rfl⟩ := dict_ep hdt hdt'
    obtain ⟨f0, f1, f2, f3, f4, f5⟩ := K0.FpOk.moved (H' := upd H q (.lst (M.map fun e => V.ref e.2.1))) fp (by rw [upd_ne hqi]; exact fp.1)
    refine wpAny_bind (next_key_end hh st hgd hdt hsz (by omega) fun h' eb => ?_)
    have I1 : Inv X pins σ (upd H q (.lst (M.map fun e => V.ref e.2.1))) { s with heap := h' } := I.turned (t' := s.toks) (fun b o hb z => eb b o hb z) f0 f1 f3 f4 f5
    exact wpAny_pure (done _ I1)
  | succ k ih =>
    intro i s hi I st
    refine codeAny_builtin PySem.F.entry_extend_loop ?_; rw [Around.under_plainId PySem.F.plain_extend_loop _]
    show wpAny _ A1.in1 (pyNext (.ref it) >>= _) _ _ s
    obtain ⟨hs, hgd, hx, es', ep', hdt', hsz, ent⟩ := frzN (H := upd H q (.lst ((M.take i).map fun e => V.ref e.2.1))) I (by rw [upd_ne ndq]; exact hd)
    obtain ⟨rfl, rfl⟩ := dict_ep hdt hdt'
    have lt : i < M.length := by omega
    obtain ⟨en, hen, hkey, _⟩ := ent i _ (List.getElem?_eq_getElem lt)
    obtain ⟨f0, f1, f2, f3, f4, f5⟩ := K0.FpOk.moved (H' := upd H q (.lst ((M.take i).map fun e => V.ref e.2.1))) fp (by rw [upd_ne hqi]; exact fp.1)
    refine wpAny_bind (next_key_item st hgd hdt hsz hen fun h' st' sb => ?_)
    have I1 : Inv X pins σ (upd H q (.lst ((M.take i).map fun e => V.ref e.2.1))) { s with heap := h' } := I.turned (t' := s.toks) (fun b o hb z => (sb.2 b hb).trans z) f0 f1 f3 f4 f5
    show wpAny _ A1.in1 (updateSeq q (·.push en.key) >>= _) _ _ _
    obtain ⟨z, its2, k2, r2, hl2, e2⟩ := I1.lstM upd_same
    have tk : (M.take (i + 1)).map (fun e => V.ref e.2.1) = (M.take i).map (fun e => V.ref e.2.1) ++ [V.ref (M[i]'lt).2.1] := by rw [List.take_add_one, List.getElem?_eq_getElem lt, List.map_append]; rfl
    have sz : its2.length ≤ i := by
      rw [← r2.length, List.length_map, List.length_take]
      omega
    refine wpAny_bind (wpAny_updateSeq e2 rfl (wpAny_pure ⟨plainId_quiet PySem.F.plain_extend_loop _, ?_⟩) (by rw [List.size_toArray]; omega) (by show (its2.toArray.push en.key).size ≤ sizeLine + 1; rw [Array.size_push, List.size_toArray]; omega))
    have I2 := I1.lset (f := (·.push en.key)) (its' := its2 ++ [en.key]) (ys := (M.take (i + 1)).map fun e => V.ref e.2.1) (t' := s.toks) upd_same e2 (by simp) (by rw [tk]; exact r2.append (.cons hkey .nil)) (by rw [List.length_map, List.length_take]; omega)
    rw [upd_upd] at I2
    refine ih (i + 1) _ (by omega) I2 ?_
    obtain ⟨o, ho, hr⟩ := st'
    exact ⟨o, (Heap.get?_update_other _ _ (Ne.symm hqi)).trans ho, hr⟩
end
/-- list(o) -/
def rListD (P : Program) (w : World) (K : PySem.W.Frag) (C : Addr) (fld : Str) : List V → Hp → VK → Prop := fun xs H Q => ∃ (a dx : Addr) (fs : List (Str × V)) (d : Addr) (M : List En), xs = [.ref a] ∧ H a = some (.ins C dx fs) ∧ fs.lookup fld = some (.ref d) ∧ H d = some (DicN P w d M) ∧ Keyed K H M ∧ M.length ≤ 1000 ∧
  ∀ q, H q = none → Q (.ref q) (upd H q (.lst (M.map fun e => V.ref e.2.1)))
section
variable {X : Cx} {pins : List (Addr × Obj)} {σ : L2.St} {H : Hp} {s : Shared} {A : Around} {n : Nat} {C g gl a q d it dx : Addr} {fld : Str} {fs : List (Str × V)} {M : List En} {od : Obj}
theorem own_hintD {E' : Value → Shared → Prop} {Q : Bool → Shared → Prop} (sb : Sub X (n + 1) A) (T : LndC X n C gl fld) (I : Inv X pins σ H s) (ha : H a = some (.ins C dx fs)) (hf : fs.lookup fld = some (.ref d)) (hd : Rd H d (DicN X.prog X.w d M)) (hk : Keyed X.K H M) (few : M.length ≤ 1000)
    (h : ∀ s' b, Inv X pins σ H s' → Q b s') : wpAny (model X.prog X.w) A (Builtin.List.listLengthHint (.ref a)) Q E' s := by
  obtain ⟨mA, J, _⟩ := ins_get I.hok ha
  obtain ⟨ob, J, _⟩ := J.look
  obtain ⟨m, hF⟩ := I.fr
  unfold Builtin.List.listLengthHint
  refine wpAny_bind (wpAny_bind (J.type.here ((PySem.W.looks_findIn I.kIn T.at_).here ?_)))
  refine PySem.W.KFB.if_not rfl (PySem.W.KFB.if_so rfl (wpAny_bind (wpAny_rule (wpAny_bind (wpAny_attempt ?_)))))
  have told : spLenD X.prog X.w X.K C fld [.ref a] H (fun v H' => v = .int M.length ∧ H' = H) (fun _ _ _ => False) := ⟨a, dx, fs, d, M, rfl, ha, hf, hd, hk, rfl, rfl⟩
  refine PySem.W.len_K hF I.ok.mod.kin J T.at_ T.fn ?_
  refine wpAny_call (codeAny_mono (T.ok A.in1 X.stack s H [.ref a] [.ref a] _ _ sb.in1.room (sub_env sb.in1 I) (.cons rfl .nil) told) fun r s' hq => ?_)
  cases r with
  | error e => exact False.elim hq
  | ok fl =>
    cases fl with
    | next => exact False.elim hq
    | brk => exact False.elim hq
    | cont => exact False.elim hq
    | ret u =>
      obtain ⟨v, H', I', rv, ev, eH⟩ := I.after hq
      subst ev eH
      obtain ⟨tk, e⟩ := (show ∃ tk, u = Value.int M.length tk from rv)
      cases e
      refine ⟨⟨by omega, by omega⟩, wpAny_bind (wpAny_pure ?_)⟩
      refine PySem.W.KFB.if_not (by unfold Builtin.List.listTooLong; exact decide_eq_false (by rw [sizeLine_eq]; omega)) ?_
      exact wpAny_pure (h _ _ (I'.tok (s'.toks + 1)))
theorem call_listD (Ti : ItdC X n C g fld) (Tl : LndC X n C gl fld) (hc : X.calm = true) (hr : Room (n + 3) X.A) : CallR X (.type "list") (rListD X.prog X.w X.K C fld) := by
  intro pins s σ H xs us Q I rv h
  obtain ⟨a, dx, fs, d, M, rfl, ha, hf, hd, hk, few, hq⟩ := h
  rw [Vals.ref1 rv]
  have sb : Sub X (n + 1) X.A.in1.in1 := (Sub.in1 (Sub.in1 (⟨hr, rfl⟩ : Sub X (n + 3) X.A)))
  have nofrz := I.nofrz hd True.intro
  obtain ⟨od, IL⟩ := I.lock hd True.intro
  have nad : a ≠ d := fun z => by rw [z, hd] at ha; cases ha
  have haL : upd H d (.frz od (DicN X.prog X.w d M)) a = some (.ins C dx fs) := by rw [upd_ne nad]; exact ha
  have hkL : Keyed X.K (upd H d (.frz od (DicN X.prog X.w d M))) M := fun e he => kr_same (fun t vs z => by
    have ne : ∀ o, H t = some o → (∀ φ, o ≠ .ext φ) → t ≠ d := fun o q1 q2 z => by
      rw [z, hd] at q1
      exact q2 _ (Option.some.inj q1).symm
    rcases z with (z | ⟨o, z⟩) | z
    · exact .inl (.inl (by rw [upd_ne (ne _ z fun _ y => nomatch y)]; exact z))
    · exact .inl (.inr ⟨o, by rw [upd_ne (ne _ z fun _ y => nomatch y)]; exact z⟩)
    · exact .inr z) (hk e he)
  have hdL : upd H d (.frz od (DicN X.prog X.w d M)) d = some (.frz od (DicN X.prog X.w d M)) := upd_same
  refine callType_codes (Q₁ := fun ob t => ob = .ref s.heap.objs.size ∧ t = { s with heap := s.heap.push { cls := .type "list", data := .seq #[] } }) PySem.F.called_list (PySem.F.typeCall_list_1 _) PySem.F.entry_list_init (code_list_new _ ⟨rfl, rfl⟩) fun ob t et => ?_
  obtain ⟨rfl, rfl⟩ := et
  have sL : (s.heap.push { cls := .type "list", data := .seq #[] }).get? s.heap.objs.size = some { cls := .type "list", data := .seq #[] } := Heap.get?_push_size _ rfl
  refine ⟨⟨_, sL, rfl⟩, PySem.F.args_list_init_2 _ _, ?_⟩
  have fr : H s.heap.objs.size = none := I.hok.fresh (Nat.le_refl _)
  have frL : upd H d (.frz od (DicN X.prog X.w d M)) s.heap.objs.size = none := IL.hok.fresh (Nat.le_refl _)
  have hq := hq _ fr
  generalize hHL : upd H d (.frz od (DicN X.prog X.w d M)) = HL at IL haL hkL hdL frL
  have I1 : Inv X pins σ (upd HL s.heap.objs.size (.lst [])) { s with heap := s.heap.push { cls := .type "list", data := .seq #[] } } := IL.lnew (its := []) (t' := s.toks) .nil (Nat.zero_le _)
  show wpAny _ _ (do let old ← Builtin.List.listItems (.ref s.heap.objs.size); Builtin.List.listUpdate (.ref s.heap.objs.size) (fun _ => #[]); letGo old.toList.reverse; Builtin.List.listExtendWith (.ref s.heap.objs.size) (.ref a) .none) _ _ _
  refine wpAny_bind ?_; unfold Builtin.List.listItems; refine wpAny_bind (wpAny_seqItems sL rfl (wpAny_pure ?_))
  show wpAny _ _ (updateSeq s.heap.objs.size (fun _ => #[]) >>= fun _ => letGo (#[] : Array Value).toList.reverse >>= fun _ => Builtin.List.listExtendWith (.ref s.heap.objs.size) (.ref a) .none) _ _ _
  refine wpAny_bind (wpAny_updateSeq sL rfl ?_)
  have I2 := I1.lset (f := fun _ => #[]) (its := []) (its' := []) (ys := []) (t' := s.toks) upd_same sL rfl .nil (Nat.zero_le _)
  rw [upd_upd] at I2
  refine wpAny_bind (wpAny_letGo ?_)
  generalize hQ : s.heap.objs.size = q at I2 fr frL hq ⊢
  have sH : Same HL (upd HL q (.lst [])) := K0.Same.new _ frL
  have hne : q ≠ a := (ne_of_none haL frL).symm
  have ha2 := sH _ _ haL
  have hd2 := sH _ _ hdL
  have hk2 : Keyed X.K (upd HL q (.lst [])) M := fun e he => kr_same (sqT_mono sH) (hkL e he)
  obtain ⟨mA, J, _⟩ := ins_get I2.hok ha2
  obtain ⟨ob, J, _⟩ := J.look
  unfold Builtin.List.listExtendWith
  refine wpAny_bind (J.type.here ?_)
  have h1 : Builtin.List.listSameRef (.ref q) (.ref a) = false := by simp [Builtin.List.listSameRef, hne]
  have h2 : (Value.ref C == Value.type "list") = false := rfl
  have h3 : (Value.ref C == Value.type "tuple") = false := rfl
  simp only [h1, h2, h3, Bool.or_false, Bool.false_eq_true, if_false]
  refine wpAny_bind (own_iterD (sb.mono (Nat.le_succ n)) Ti I2 ha2 hf hd2 fun it s3 I3 hn3 hz3 => ?_)
  have sI : Same (upd HL q (.lst [])) (upd (upd HL q (.lst [])) it (KitO it d od M.length)) := K0.Same.new _ hn3
  refine wpAny_bind (wpAny_holding (own_hintD sb Tl I3 (sI _ _ ha2) hf (.inr ⟨od, sI _ _ hd2⟩) (fun e he => kr_same (sqT_mono sI) (hk2 e he)) few fun s4 bb I4 => ?_))
  obtain ⟨I5, fp5, es, ep, hdt, st5⟩ := kit_drop I4 hn3 hz3
  have qi : it ≠ q := fun e => by rw [e, upd_same] at hn3; cases hn3
  have fpH : FpOk X pins HL it := K0.FpOk.moved fp5 (by rw [upd_ne qi] at hn3; exact hn3)
  have ndq : d ≠ q := fun z => by rw [z, frL] at hdL; cases hdL
  have done : ∀ s, Inv X pins σ (upd HL q (.lst (M.map fun e => V.ref e.2.1))) s → wants (fun r s₂ => r = .none ∧ EP X pins σ Q (.ref q) s₂) X.xe (.ok (.ret .none)) s := fun s' I' => by
    have hdq : upd HL q (.lst (M.map fun e => V.ref e.2.1)) d = some (.frz od (DicN X.prog X.w d M)) := by rw [upd_ne ndq]; exact hdL
    have U := I'.unlock hdq nofrz
    have eH : upd (upd HL q (.lst (M.map fun e => V.ref e.2.1))) d (DicN X.prog X.w d M) = upd H q (.lst (M.map fun e => V.ref e.2.1)) := by
      funext c
      by_cases c1 : c = d
      · rw [c1, upd_same, upd_ne ndq, hd]
      · by_cases c2 : c = q
        · rw [c2, upd_ne (Ne.symm ndq), upd_same, upd_same]
        · rw [upd_ne c1, upd_ne c2, upd_ne c2, ← hHL, upd_ne c1]
    rw [eH] at U
    exact ⟨rfl, .ref q, _, U, rfl, hq⟩
  have I5' : Inv X pins σ (upd HL q (.lst ((M.take 0).map fun e => V.ref e.2.1))) s4 := by rw [List.take_zero]; exact I5
  have hd1 : X.A.in1.in1.handled = none := I.ok.hd hc
  have few' : M.length ≤ sizeLine := by rw [sizeLine_eq]; omega
  refine wpAny_ite_split (fun _ => ?_) (fun _ => wpAny_pure ⟨plainId_quiet PySem.F.plain_extend_loop _, key_loop (A1 := X.A.in1) hd1 few' frL hdL hdt fpH qi done M.length 0 s4 (Nat.zero_add _) I5' st5⟩)
  refine wpAny_bind (wpAny_rule (wpAny_bind ?_))
  show wpAny _ _ (updateSeq q (fun x => x.push .none) >>= fun _ => updateSeq q (fun x => x.pop)) _ _ _
  obtain ⟨z, its, k, r3, hl3, e3⟩ := I5.lstM upd_same
  cases r3
  refine wpAny_bind (wpAny_updateSeq e3 rfl ?_)
  have I6 := I5.lset (f := (·.push Value.none)) (its' := [Value.none]) (ys := [.non]) (t' := s4.toks) upd_same e3 (by simp) (.cons rfl .nil) (by rw [List.length_singleton, sizeLine_eq]; decide)
  obtain ⟨z4, its4, k4, r4, hl4, e4⟩ := I6.lstM upd_same
  obtain ⟨u4, rfl, ru4⟩ := r4.one
  refine wpAny_updateSeq e4 rfl ?_ (by show 1 ≤ sizeLine; rw [sizeLine_eq]; decide) (by show 0 ≤ sizeLine + 1; exact Nat.zero_le _)
  have I7 := I6.lset (f := (·.pop)) (its := [u4]) (its' := []) (ys := []) (t' := s4.toks) upd_same e4 (by rfl) .nil (Nat.zero_le _)
  rw [upd_upd, upd_upd] at I7
  have e0 : upd HL q (.lst []) = upd HL q (.lst ((M.take 0).map fun e => V.ref e.2.1)) := by rw [List.take_zero]; rfl
  rw [e0] at I7
  refine wpAny_pure ⟨plainId_quiet PySem.F.plain_extend_loop _, key_loop (A1 := X.A.in1) hd1 few' frL hdL hdt fpH qi done M.length 0 _ (Nat.zero_add _) I7 ?_⟩
  obtain ⟨o, ho, hr⟩ := st5
  exact ⟨o, (Heap.get?_update_other _ _ (Ne.symm qi)).trans ((Heap.get?_update_other _ _ (Ne.symm qi)).trans ho), hr⟩
end
end ND

/-! ## F13 -/
set_option maxRecDepth 100000
set_option maxHeartbeats 2000000
namespace K0
open PySem L2 NS ND RZ
/-! ### iter, len, == of a whence -/
def eqPo (S S2 : Po) : Bool := sameN (S.map enP) (S2.map enP)
structure TIs (K : PySem.W.Frag) (C : Addr) : Prop where
  ha : PySem.W.findIn K (.ref C) "__class__" = some (some (.builtin "object.__class__"))
  hn : PySem.W.specialIn K (.builtin "object.__class__") "__get__" = some (some (.builtin "getset_descriptor.__get__"))
  htk : PySem.W.takesIn K (.builtin "object.__class__") = some true
  hm : PySem.W.mroIn K C (.type "object") = some true
  yes : PySem.W.kitOne K (.ref C) (.ref C) = some true
  noT : PySem.W.kitOne K (.ref C) (.type "tuple") = some false
  noD : PySem.W.kitOne K (.type "dict") (.ref C) = some false
  noN : PySem.W.kitOne K (.type "NoneType") (.ref C) = some false
theorem WhA.ty {P : Program} {w : World} {K : PySem.W.Frag} {C : Addr} {H : Hp} {p dp : Addr} {S : Po} (h : WhA P w C H p dp S) (T : TWh K C) (I : TIs K C) : TyX K H (.ref p) (.ref C) := by
  obtain ⟨⟨dx, ep⟩, _⟩ := h
  exact .base (.ins ep T.cl I.ha I.hn I.htk I.hm)
def spWEq (P : Program) (w : World) (K : PySem.W.Frag) (C : Addr) : Sp := fun vs H Q _ => ∃ (p : Addr) (S : Po) (v : V), vs = [.ref p, v] ∧ WhO P w C H p S ∧
  ((∃ p2 S2, v = .ref p2 ∧ WhO P w C H p2 S2 ∧ Q (.bl (eqPo S S2)) H) ∨ (∃ t, TyX K H v t ∧ PySem.W.kitOne K t (.ref C) = some false ∧ Q (.bl false) H) ∨ (∃ d L, v = .ref d ∧ PoA P w H d L ∧ Q (.bl false) H))
section
variable {P : Program} {w : World} {K : PySem.W.Frag} {mg : Str → Option Value} {base : Heap} {C : Addr}
theorem scIter : FnScope ["self"] ["self"] (defScope (sW 14)) := ⟨rfl, rfl, rfl, by decide +kernel, rfl, by decide +kernel, by decide +kernel⟩
theorem ok_iter {f : Addr} {fd : FuncData} (F : Fun K "__iter__" "Whence.__iter__" (sW 14) f fd) (T : TWh K C) (B : TS K mg) (b : Binds K fd ["self"] []) : FnS P w K mg base CX0 1 f (spIterD P w C "_parts") := by
  refine sfn F scIter b (fun n vs H Q E h => ?_) fun cdv A outer s H vs Q E hr h => ?_
  · obtain ⟨a, dx, fs, d, od, M, rfl, _⟩ := h
    rfl
  · obtain ⟨a, dx, fs, d, od, M, rfl, ha, hf, hd, q⟩ := h
    refine ⟨_, pss_one (ps_ret (pe_callB cr_iterD (by rfl) B.itr (by decide +kernel) (pa_cons (pe_fld (pv 0) rfl) pa_nil))), ?_⟩
    exact ⟨_, rfl, a, C, dx, _, _, rfl, ha, T.cl, T.n1, hf, d, od, M, rfl, hd, q⟩
theorem ok_lenD {f : Addr} {fd : FuncData} (F : Fun K "__len__" "Whence.__len__" (sW 13) f fd) (T : TWh K C) (B : TS K mg) : FnOk P w K mg base CX0 1 f fd ["self"] (spLenD P w K C "_parts") := by
  refine F.ok scLen (fun vs H Q E h => ?_) (fun cdv A outer s H vs Q E hr h => ?_)
  · obtain ⟨a, dx, fs, d, M, rfl, _⟩ := h
    rfl
  · obtain ⟨a, dx, fs, d, M, rfl, ha, hf, hd, hk, q⟩ := h
    refine ⟨_, pss_one (ps_ret (pe_callB cr_nlen (by rfl) B.len PySem.boot_len (pa_cons (pe_fld (pv 0) rfl) pa_nil))), ?_⟩
    exact ⟨_, rfl, a, C, dx, _, _, rfl, ha, T.cl, T.n1, hf, d, M, rfl, hd, hk, q⟩
theorem scEq : FnScope ["self", "other"] ["self", "other"] (defScope (sW 15)) := ⟨rfl, rfl, rfl, by decide +kernel, rfl, by decide +kernel, by decide +kernel⟩
theorem ok_eq {f : Addr} {fd : FuncData} (F : Fun K "__eq__" "Whence.__eq__" (sW 15) f fd) (T : TWh K C) (I : TIs K C) (B : TS K mg) (gW : mg "Whence" = some (.ref C)) : FnOk P w K mg base CX0 1 f fd ["self", "other"] (spWEq P w K C) := by
  refine F.ok scEq (fun vs H Q E h => ?_) (fun cdv A outer s H vs Q E hr h => ?_)
  · obtain ⟨p, S, v, rfl, _⟩ := h
    rfl
  · obtain ⟨p, S, v, rfl, ⟨dp, W0⟩, h⟩ := h
    refine ⟨_, pss_one (ps_ret (pe_and (pe_callB (callR_or call_isi cr_nisi) (by rfl) B.isi (by decide +kernel) (pa_cons (pv 1) (pa_cons (pe_glob (v := .ref C) (by rfl) gW rfl) pa_nil)))
      (pe_one (pe_cmpR (op_neqN (u9 hr)) (pe_fld (pv 0) rfl) (pe_fld (pv 1) rfl) (nomark _))))), ?_⟩
    rcases h with ⟨p2, S2, rfl, ⟨dp2, W2⟩, k⟩ | ⟨t, ty, kt, k⟩ | ⟨d, L, rfl, hd, k⟩
    · refine ⟨_, rfl, .inl ⟨_, _, _, _, true, rfl, .own C, W2.ty T I, I.yes, true, rfl, if_pos_of rfl ?_⟩⟩
      obtain ⟨⟨dx, ep⟩, hd, _, _⟩ := W0
      obtain ⟨⟨dx2, ep2⟩, hd2, _, _⟩ := W2
      exact ⟨_, rfl, p, C, dx, _, _, rfl, ep, T.cl, T.n1, look1 dp, _, rfl, p2, C, dx2, _, _, rfl, ep2, T.cl, T.n1, look1 dp2, dp, dp2, _, _, rfl, rfl, .inl hd.1, .inl hd2.1, hd.2.keyed, hd2.2.keyed, nums_of S, nums_of S2, k⟩
    · exact ⟨_, rfl, .inl ⟨_, _, t, _, false, rfl, .own C, ty, kt, false, rfl, if_neg_of rfl k⟩⟩
    · exact ⟨_, rfl, .inr ⟨d, _, _, _, false, rfl, .own C, .inl hd.1, I.noD, false, rfl, if_neg_of rfl k⟩⟩
end
end K0

/-! ## F14 -/
set_option maxRecDepth 100000
set_option maxHeartbeats 2000000
namespace K0
open PySem L2 NS ND RZ
/-! ### the texts of triples and products -/
def spc : Str := " "
def dcS (i : Int) : Str := Str.ofString (toString i)
def valS (r : List Int) : Str := Txt.join spc (r.map dcS)
def bodyS (t : Tri) : Str := ((t.1 ++ ("(" : Str)) ++ valS t.2.1) ++ (")" : Str)
def headS (t : Tri) : Str := (t.1 ++ ("(" : Str)) ++ valS t.2.1
def triS (t : Tri) : Str := if t.2.2 = 1 then bodyS t else (headS t ++ (")^" : Str)) ++ dcS t.2.2
def proS (p : Pr) (n : Int) : Str := Txt.join spc (if p ≠ [] ∧ n = 1 then p.map triS else dcS n :: p.map triS)
theorem isI_lt {i : Int} (h : isI (.int i) = true) : i.natAbs < 10 ^ 60 := by
  have z : (decide (-big < i) && decide (i < big)) = true := h
  rw [Bool.and_eq_true] at z
  have a := of_decide_eq_true z.1
  have b := of_decide_eq_true z.2
  have e : big = 10 ^ 60 := by unfold big; rfl
  rw [e] at a b
  omega
theorem lt_log {n : Nat} (h : n < 10 ^ 60) : n.log2 < 1920 := by
  by_cases c : n = 0
  · rw [c]
    decide +kernel
  · exact (Nat.log2_lt c).mpr (Nat.lt_trans h (by decide +kernel))
theorem dcS_len {i : Int} (h : i.natAbs < 10 ^ 60) : (dcS i).length ≤ 61 := by
  unfold dcS
  rw [ofString_length]
  exact int_text_length_le10 (by decide) h
theorem sum_few (l : List Str) (n : Nat) (h : ∀ k ∈ l, k.length ≤ n) : (l.map (·.length)).sum ≤ l.length * n := by
  induction l with
  | nil => simp
  | cons a l ih =>
    have r := ih fun k hk => h k (List.mem_cons_of_mem _ hk)
    have z := h a List.mem_cons_self
    rw [List.map_cons, List.sum_cons, List.length_cons, Nat.add_mul, Nat.one_mul]
    omega
theorem joinN_small {sep : Str} {l : List Str} (n m : Nat) (hs : sep.length ≤ m) (h : ∀ k ∈ l, k.length ≤ n) (few : l.length * (n + m) ≤ 16777216) : (l.map (·.length)).sum + l.length * sep.length ≤ 16777216 := by
  have z := sum_few l n h
  have y : l.length * sep.length ≤ l.length * m := Nat.mul_le_mul_left _ hs
  rw [Nat.mul_add] at few
  omega
theorem joinN_le {sep : Str} (l : List Str) (n m : Nat) (hs : sep.length ≤ m) (h : ∀ k ∈ l, k.length ≤ n) : (Txt.join sep l).length ≤ l.length * (n + m) := by
  rw [TL.join_eq]
  have z := PySem.StrLaws.join_length_le sep l
  have y := sum_few l n h
  have x : l.length * sep.length ≤ l.length * m := Nat.mul_le_mul_left _ hs
  rw [Nat.mul_add]
  omega
theorem emp_app (x : Str) : Str.empty ++ x = x := by
  show (⟨#[] ++ x.cps⟩ : Str) = x
  rw [Array.empty_append]
theorem l_par1 : ("(" : Str).length = 1 := by decide +kernel
theorem l_par2 : (")" : Str).length = 1 := by decide +kernel
theorem l_hat : (")^" : Str).length = 2 := by decide +kernel
theorem l_spc : spc.length = 1 := by decide +kernel
/-- a triple whose text is told -/
theorem WfT.nums {t : Tri} (w : WfT t) : ∀ i ∈ t.2.1, i.natAbs < 10 ^ 60 := fun i hi => by
  have h := w.row
  unfold rowL at h
  rw [Bool.and_eq_true] at h
  have z := List.all_eq_true.mp h.2 (.int i) (List.mem_map.mpr ⟨i, hi, rfl⟩)
  have y : (isI (.int i) && decide (0 ≤ i)) = true := z
  rw [Bool.and_eq_true] at y
  exact isI_lt y.1
theorem WfT.time {t : Tri} (w : WfT t) : 1 ≤ t.2.2 ∧ t.2.2 ≤ 64 := by
  have h : (isI (.int t.2.2) && (decide (1 ≤ t.2.2) && decide (t.2.2 ≤ 64))) = true := w.tim
  rw [Bool.and_eq_true, Bool.and_eq_true] at h
  exact ⟨of_decide_eq_true h.2.1, of_decide_eq_true h.2.2⟩
theorem valS_len {t : Tri} (w : WfT t) : (valS t.2.1).length ≤ 496 := by
  have z := joinN_le (sep := spc) (t.2.1.map dcS) 61 1 (by rw [l_spc]; exact Nat.le_refl _) fun k hk => by
    obtain ⟨i, hi, rfl⟩ := List.mem_map.mp hk
    exact dcS_len (w.nums i hi)
  rw [List.length_map] at z
  have := w.few
  unfold valS
  omega
theorem bodyS_len {t : Tri} (w : WfT t) : (bodyS t).length ≤ 506 := by
  have z := valS_len w
  have y := w.sz
  unfold bodyS
  rw [Str.length_append, Str.length_append, Str.length_append, l_par1, l_par2]
  omega
theorem headS_len {t : Tri} (w : WfT t) : (headS t).length ≤ 505 := by
  have z := valS_len w
  have y := w.sz
  unfold headS
  rw [Str.length_append, Str.length_append, l_par1]
  omega
theorem triS_len {t : Tri} (w : WfT t) : (triS t).length ≤ 568 := by
  have z := bodyS_len w
  have x := headS_len w
  have y : (dcS t.2.2).length ≤ 61 := dcS_len (by have := w.time; omega)
  unfold triS
  split
  · omega
  · rw [Str.length_append, Str.length_append, l_hat]
    omega
/-! ### _told_triple, _told_product -/
def rJoin (K : PySem.W.Frag) : V → List V → Hp → VK → Prop := fun x xs H Q => ∃ a p, ∃ ys : List Str, x = .str a ∧ xs = [.ref p] ∧ (SqL K H p (ys.map V.str) ∨ SqT K H p (ys.map V.str)) ∧
      (ys.map (·.length)).sum + ys.length * a.length ≤ 16777216 ∧ Q (.str (Txt.join a ys)) H
abbrev sToldT : Stmt := top 26
abbrev sToldP : Stmt := top 27
def spToldT : Sp := fun vs H Q _ => ∃ (a : Addr) (t : Tri), vs = [.ref a] ∧ TriA H a t ∧ WfT t ∧ ∀ H', Same H H' → Q (.str (triS t)) H'
def spToldP : Sp := fun vs H Q _ => ∃ (a : Addr) (p : Pr) (n : Int), vs = [.ref a, .int n] ∧ ProA H a p ∧ (∀ t ∈ p, WfT t) ∧ p.length ≤ 8 ∧ n.natAbs < 10 ^ 60 ∧ ∀ H', Same H H' → Q (.str (proS p n)) H'
theorem strs_at {β : Type} (l : List Int) (f : Int → β) : (List.range l.length).map (fun i => f (l.getD i 0)) = l.map f := by
  apply List.ext_getElem
  · simp
  · intro i h1 h2
    simp at h1
    simp [List.getD, h1]
theorem tris_at {β : Type} (l : Pr) (f : Tri → β) : (List.range l.length).map (fun i => f (l.getD i ("", [], 0))) = l.map f := by
  apply List.ext_getElem
  · simp
  · intro i h1 h2
    simp at h1
    simp [List.getD, h1]
section
variable {P : Program} {w : World} {K : PySem.W.Frag} {mg : Str → Option Value} {base : Heap} {fT : Addr} {fdT : FuncData}
abbrev nToldT : List Str := ["triple", "table", "row", "times", "values", "number"]
theorem scToldT : FnScope nToldT ["triple"] (defScope sToldT) := ⟨rfl, rfl, rfl, by decide +kernel, rfl, by decide +kernel, by decide +kernel⟩
theorem ok_toldT {f : Addr} {fd : FuncData} (F : Fun K "_told_triple" "_told_triple" sToldT f fd) (B : TS K mg) : FnOk P w K mg base CX0 1 f fd ["triple"] spToldT := by
  refine F.ok scToldT (fun vs H Q E h => ?_) (fun cdv A outer s H vs Q E hr h => ?_)
  · obtain ⟨a, t, rfl, _⟩ := h
    rfl
  · obtain ⟨a, t, rfl, ⟨b, h1, h2⟩, wf, k⟩ := h
    refine ⟨_, pss_cons (ps_asg (pv 0) (pg_tup rfl (pgs_cons (pg_name (i := 1) scToldT.nd rfl (Or.inl rfl)) (pgs_cons (pg_name (i := 2) scToldT.nd rfl (Or.inl rfl)) (pgs_cons (pg_name (i := 3) scToldT.nd rfl (Or.inl rfl)) pgs_nil)))))
      (pss_cons (ps_set (i := 4) scToldT.nd rfl (Or.inl rfl) (pe_join pe_str (pe_lc (own := [("number", 5)]) (g := gName 5) (tt := tYes) rfl scToldT.nd (pi_tup (pv 2))
          (blkOk_by (own := [("number", 5)]) (N := nToldT) (sc := defScope sToldT) (by decide +kernel)) (fun _ _ _ _ _ => pg_name (i := 5) scToldT.nd rfl (Or.inl rfl)) (fun _ _ _ _ _ => pts_nil)
          (fun _ _ _ _ _ => pe_callTy (T := "str") call_str_int (by rfl) B.str (by decide +kernel) (pa_cons (pv 5) pa_nil)))))
      (pss_one (ps_ret (pe_ifExp (pt_cmpR op_eq (pv 3) pe_int (nomark _))
        (pe_joined (.cons (pe_fmt (pv 1)) (.cons pe_str (.cons (pe_fmt (pv 4)) (.cons pe_str .nil)))))
        (pe_joined (.cons (pe_fmt (pv 1)) (.cons pe_str (.cons (pe_fmt (pv 4)) (.cons pe_str (.cons (pe_fmt (pv 3)) .nil)))))))))), ?_⟩
    have l8 : t.2.1.length ≤ 8 := by have := wf.few; omega
    refine ⟨_, rfl, a, _, rfl, SqT.of h1, rfl, ?_⟩
    refine ⟨_, _, rfl, _, _, rfl, _, _, rfl, rfl, ⟨_, rfl⟩, _, rfl, b, rfl, ⟨_, SqT.of h2⟩, fun D hD => lc_pure (f := fun i => .str (dcS (t.2.1.getD i 0))) (walk_tup (K := K) (a := b) (xs := t.2.1.map V.int)) ?_ hD (fun H1 s1 => SqT.of (s1 _ _ h2)) ?_ gName_mono ?_⟩
    · rw [List.length_map]
      exact small1000 (by omega)
    · rintro i x H1 H2 hi s1 ⟨rfl, hx⟩
      rw [List.getElem?_map] at hx
      obtain ⟨v, hv, rfl⟩ := Option.map_eq_some_iff.mp hx
      have vm := List.mem_of_getElem? hv
      have ev : t.2.1.getD i 0 = v := by simp [List.getD, hv]
      refine ⟨rfl, fun Q' hq => ⟨_, rfl, _, rfl, lt_log (wf.nums v vm), ?_⟩⟩
      have z := hq _ (Same.rfl' (H := H2))
      rw [ev] at z
      exact z
    · intro H1 s1 hD1
      rw [List.length_map] at hD1
      rw [strs_at t.2.1 fun i => V.str (dcS i)] at hD1
      have eD : t.2.1.map (fun i => V.str (dcS i)) = (t.2.1.map dcS).map V.str := by
        rw [List.map_map]
        rfl
      rw [eD] at hD1
      have ln : ∀ k ∈ t.2.1.map dcS, k.length ≤ 61 := fun k hk => by
        obtain ⟨i, hi, rfl⟩ := List.mem_map.mp hk
        exact dcS_len (wf.nums i hi)
      have tm := wf.time
      have tl : (dcS t.2.2).length ≤ 61 := dcS_len (by omega)
      have vl := valS_len wf
      have hl := headS_len wf
      have bl := bodyS_len wf
      have nl := wf.sz
      have kk : Q (V.str (triS t)) H1 := k _ s1
      refine ⟨_, D, _, rfl, rfl, .inl (SqL.of hD1), joinN_small (sep := spc) 61 1 (by rw [l_spc]; exact Nat.le_refl _) ln (by rw [List.length_map]; omega), ?_⟩
      refine ⟨_, rfl, rfl, _, rfl, ?_⟩
      rw [dec_int]
      by_cases c : t.2.2 = 1
      · have e1 : (t.2.2 == 1) = true := by rw [c]; rfl
        refine if_pos_of e1 ⟨_, rfl, .inl ⟨_, rfl, by rw [sizeLine_eq]; omega, _, rfl, by rw [emp_app, sizeLine_eq]; omega, ?_⟩⟩
        rw [emp_app]
        refine ⟨_, rfl, by rw [Str.length_append, l_par1, sizeLine_eq]; omega, _, rfl, .inl ⟨_, rfl, by show (valS t.2.1).length ≤ _; rw [sizeLine_eq]; omega, _, rfl, by show (headS t).length ≤ _; rw [sizeLine_eq]; omega, _, rfl, by show (bodyS t).length ≤ _; rw [sizeLine_eq]; omega, ?_⟩⟩
        have z : triS t = bodyS t := by unfold triS; rw [if_pos c]
        rw [z] at kk
        exact kk
      · have e1 : (t.2.2 == 1) = false := by simp [c]
        refine if_neg_of e1 ⟨_, rfl, .inl ⟨_, rfl, by rw [sizeLine_eq]; omega, _, rfl, by rw [emp_app, sizeLine_eq]; omega, ?_⟩⟩
        rw [emp_app]
        refine ⟨_, rfl, by rw [Str.length_append, l_par1, sizeLine_eq]; omega, _, rfl, .inl ⟨_, rfl, by show (valS t.2.1).length ≤ _; rw [sizeLine_eq]; omega, _, rfl, by show (headS t).length ≤ _; rw [sizeLine_eq]; omega, _, rfl, ?_, _, rfl, .inr ⟨_, rfl, lt_log (by omega), _, rfl, ?_, ?_⟩⟩⟩
        · show (headS t ++ (")^" : Str)).length ≤ _
          rw [Str.length_append, l_hat, sizeLine_eq]
          omega
        · show ((headS t ++ (")^" : Str)) ++ dcS t.2.2).length ≤ _
          rw [Str.length_append, Str.length_append, l_hat, sizeLine_eq]
          omega
        · have z : triS t = (headS t ++ (")^" : Str)) ++ dcS t.2.2 := by unfold triS; rw [if_neg c]
          rw [z] at kk
          exact kk
abbrev nToldP : List Str := ["product", "number", "rows", "triple"]
theorem scToldP : FnScope nToldP ["product", "number"] (defScope sToldP) := ⟨rfl, rfl, rfl, by decide +kernel, rfl, by decide +kernel, by decide +kernel⟩
theorem ok_toldP {f : Addr} {fd : FuncData} (F : Fun K "_told_product" "_told_product" sToldP f fd) (B : TS K mg) (eT : Glo K mg "_told_triple" fT) (GT : FnOk P w K mg base CX0 1 fT fdT ["triple"] spToldT) (bT : Binds K fdT ["triple"] []) : FnOk P w K mg base CX0 2 f fd ["product", "number"] spToldP := by
  refine F.ok scToldP (fun vs H Q E h => ?_) (fun cdv A outer s H vs Q E hr h => ?_)
  · obtain ⟨a, p, n, rfl, _⟩ := h
    rfl
  · obtain ⟨a, p, n, rfl, hp, wf, few, hn, k⟩ := h
    obtain ⟨ts, h1, h2⟩ := hp
    have lt : ts.length = p.length := Paired.length h2
    refine ⟨_, pss_cons (ps_setLc (i := 2) (own := [("triple", 3)]) (g := gName 3) (tt := tYes) (by rfl) scToldP.nd rfl rfl (sw_true rfl rfl rfl (by decide +kernel)) (pi_tup (pv 0))
          (blkOk_by (own := [("triple", 3)]) (N := nToldP) (sc := defScope sToldP) (by decide +kernel)) (fun _ _ _ _ _ => pg_name (i := 3) scToldP.nd rfl (Or.inl rfl)) (fun _ _ _ _ _ => pts_nil)
          (fun _ _ _ _ _ => pe_call (E := E0) GT hr (by rfl) eT.g eT.k bT .nil pass0 (pa_cons (pv 3) pa_nil)))
      (pss_one (ps_ret (pe_join pe_str (pe_ifExp (PW.pt (pw_and (pt_truth (pv 2) (fun _ => rfl)) (pw_and1 (pt_cmpR op_eq (pv 1) pe_int (nomark _))))) (pv 2)
        (pe_lst (pa_cons (pe_callTy (T := "str") call_str_int (by rfl) B.str (by decide +kernel) (pa_cons (pv 1) pa_nil)) (StX.pa_star (pv 2) pa_nil))))))), ?_⟩
    have lz : (ts.map V.ref).length = p.length := by rw [List.length_map, lt]
    refine ⟨_, rfl, a, rfl, ⟨_, SqT.of h1⟩, fun D hD => lc_pure (f := fun i => .str (triS (p.getD i ("", [], 0)))) (walk_tup (K := K) (a := a) (xs := ts.map V.ref)) ?_ hD (fun H1 s1 => SqT.of (s1 _ _ h1)) ?_ gName_mono ?_⟩
    · rw [lz]
      exact small1000 (by omega)
    · rintro i x H1 H2 hi s1 ⟨rfl, hx⟩
      rw [List.getElem?_map] at hx
      obtain ⟨t, ht, rfl⟩ := Option.map_eq_some_iff.mp hx
      obtain ⟨u, hu, q⟩ := paired_get h2 ht
      have um := List.mem_of_getElem? hu
      have ev : p.getD i ("", [], 0) = u := by simp [List.getD, hu]
      refine ⟨rfl, fun Q' hq => ⟨_, rfl, t, u, rfl, q.same s1, wf u um, fun H3 s3 => ?_⟩⟩
      have z := hq _ s3
      rw [ev] at z
      exact z
    · intro H1 s1 hD1
      rw [lz, tris_at p fun t => V.str (triS t)] at hD1
      have eD : p.map (fun t => V.str (triS t)) = (p.map triS).map V.str := by
        rw [List.map_map]
        rfl
      rw [eD] at hD1
      have ln : ∀ k ∈ dcS n :: p.map triS, k.length ≤ 568 := fun k hk => by
        rcases List.mem_cons.mp hk with e | hk
        · rw [e]
          exact Nat.le_trans (dcS_len hn) (by decide)
        · obtain ⟨t, ht, rfl⟩ := List.mem_map.mp hk
          exact triS_len (wf t ht)
      have l1 := l_spc
      have jn : ∀ ys : List Str, (∀ k ∈ ys, k ∈ dcS n :: p.map triS) → ys.length ≤ 9 → (ys.map (·.length)).sum + ys.length * spc.length ≤ 16777216 := fun ys h hl =>
        joinN_small 568 1 (by rw [l1]; exact Nat.le_refl _) (fun k hk => ln k (h k hk)) (by omega)
      have kk : ∀ H', Same H H' → Q (V.str (proS p n)) H' := k
      refine ⟨⟨_, rfl⟩, _, rfl, _, .inl ⟨_, SqL.of hD1, rfl⟩, ?_⟩
      by_cases e0 : p = []
      · have c : ¬ (p ≠ [] ∧ n = 1) := fun z => z.1 e0
        refine if_neg_of (by rw [e0]; decide) ?_
        refine if_neg_of (by decide) ?_
        refine ⟨_, rfl, _, rfl, lt_log hn, _, rfl, D, _, rfl, .inr (SqL.of hD1), ?_, fun m hm => ?_⟩
        · simp only [List.length_cons, List.length_append, List.length_map, List.length_nil]
          rw [sizeLine_eq]
          omega
        · have sm : Same H1 (upd H1 m (.lst ((dcS n :: p.map triS).map V.str))) := Same.new _ hm
          have eL : ((V.str (dcS n)) :: ((p.map triS).map V.str ++ [])) = (dcS n :: p.map triS).map V.str := by
            rw [List.append_nil]
            rfl
          refine ⟨_, m, dcS n :: p.map triS, rfl, rfl, .inl (SqL.of ?_), jn _ (fun _ hk => hk) (by rw [List.length_cons, List.length_map]; omega), ?_⟩
          · rw [upd_same, ← eL]
            rfl
          · have z := kk _ (Same.tr s1 sm)
            unfold proS at z
            rw [if_neg c, ← eL] at z
            exact z
      · have pe : (!((p.map triS).map V.str).isEmpty) = true := by
          cases p with
          | nil => exact absurd rfl e0
          | cons x l => rfl
        refine if_pos_of pe ?_
        refine ⟨_, rfl, rfl, _, rfl, ?_⟩
        rw [dec_int]
        by_cases c1 : n = 1
        · refine if_pos_of (by rw [c1]; rfl) ?_
          refine ⟨_, rfl, _, D, p.map triS, rfl, rfl, .inl (SqL.of hD1), jn _ (fun _ hk => List.mem_cons_of_mem _ hk) (by rw [List.length_map]; omega), ?_⟩
          have z := kk _ s1
          unfold proS at z
          rw [if_pos ⟨e0, c1⟩] at z
          exact z
        · have c : ¬ (p ≠ [] ∧ n = 1) := fun z => c1 z.2
          refine if_neg_of (by simp [c1]) ?_
          refine ⟨_, rfl, _, rfl, lt_log hn, _, rfl, D, _, rfl, .inr (SqL.of hD1), ?_, fun m hm => ?_⟩
          · simp only [List.length_cons, List.length_append, List.length_map, List.length_nil]
            rw [sizeLine_eq]
            omega
          · have sm : Same H1 (upd H1 m (.lst ((dcS n :: p.map triS).map V.str))) := Same.new _ hm
            have eL : ((V.str (dcS n)) :: ((p.map triS).map V.str ++ [])) = (dcS n :: p.map triS).map V.str := by
              rw [List.append_nil]
              rfl
            refine ⟨_, m, dcS n :: p.map triS, rfl, rfl, .inl (SqL.of ?_), jn _ (fun _ hk => hk) (by rw [List.length_cons, List.length_map]; omega), ?_⟩
            · rw [upd_same, ← eL]
              rfl
            · have z := kk _ (Same.tr s1 sm)
              unfold proS at z
              rw [if_neg c, ← eL] at z
              exact z
theorem proS_len {p : Pr} {n : Int} (wf : ∀ t ∈ p, WfT t) (few : p.length ≤ 8) (hn : n.natAbs < 10 ^ 60) : (proS p n).length ≤ 5121 := by
  have l1 := l_spc
  have ln : ∀ k ∈ dcS n :: p.map triS, k.length ≤ 568 := fun k hk => by
    rcases List.mem_cons.mp hk with e | hk
    · rw [e]
      exact Nat.le_trans (dcS_len hn) (by decide)
    · obtain ⟨t, ht, rfl⟩ := List.mem_map.mp hk
      exact triS_len (wf t ht)
  unfold proS
  split
  · have z := joinN_le (sep := spc) (p.map triS) 568 1 (by rw [l1]; exact Nat.le_refl _) fun k hk => ln k (List.mem_cons_of_mem _ hk)
    rw [List.length_map] at z
    omega
  · have z := joinN_le (sep := spc) (dcS n :: p.map triS) 568 1 (by rw [l1]; exact Nat.le_refl _) ln
    rw [List.length_cons, List.length_map] at z
    omega
end
end K0

/-! ## F15 -/
set_option maxRecDepth 100000
set_option maxHeartbeats 2000000
namespace K0
open PySem L2 NS ND RZ
/-! ### the text of a whence -/
def plusS : Str := " + "
def poS (S : Po) : Str := if S = [] then ("0" : Str) else Txt.join plusS (S.map fun e => proS e.1 e.2.2)
def spWStr (P : Program) (w : World) (C : Addr) : Sp := fun vs H Q _ => ∃ (p : Addr) (S : Po), vs = [.ref p] ∧ WhO P w C H p S ∧ S.length ≤ 8 ∧ (∀ e ∈ S, e.1.length ≤ 8) ∧ ∀ H', Same H H' → Q (.str (poS S)) H'
theorem l_plus : plusS.length = 3 := by decide +kernel
theorem pos_at {β : Type} (l : Po) (f : Pr × Addr × Int → β) : (List.range l.length).map (fun i => f (l.getD i ([], 0, 0))) = l.map f := by
  apply List.ext_getElem
  · simp
  · intro i h1 h2
    simp at h1
    simp [List.getD, h1]
section
variable {P : Program} {w : World} {K : PySem.W.Frag} {mg : Str → Option Value} {base : Heap} {C : Addr} {fT : Addr} {fdT : FuncData}
abbrev nWStr : List Str := ["self", "product", "number"]
theorem scWStr : FnScope nWStr ["self"] (defScope (sW 16)) := ⟨rfl, rfl, rfl, by decide +kernel, rfl, by decide +kernel, by decide +kernel⟩
theorem ok_wstr {f : Addr} {fd : FuncData} (F : Fun K "__str__" "Whence.__str__" (sW 16) f fd) (T : TWh K C) (B : TS K mg) (eT : Glo K mg "_told_product" fT) (GT : FnOk P w K mg base CX0 2 fT fdT ["product", "number"] spToldP) (bT : Binds K fdT ["product", "number"] []) : FnOk P w K mg base CX0 3 f fd ["self"] (spWStr P w C) := by
  refine F.ok scWStr (fun vs H Q E h => ?_) (fun cdv A outer s H vs Q E hr h => ?_)
  · obtain ⟨p, S, rfl, _⟩ := h
    rfl
  · obtain ⟨p, S, rfl, ⟨dp, ⟨dx, ep⟩, hd, srt, wf⟩, few, fewP, k⟩ := h
    refine ⟨_, pss_cons (ps_if (pt_not (pt_truthR (pe_fld (pv 0) rfl) tru_n (fun _ => rfl))) (pss_one (ps_ret pe_str)) pss_nil)
      (pss_one (ps_ret (pe_join pe_str (pe_lock (pe_lc (own := [("product", 1), ("number", 2)]) (g := gTup K 2 (gCons (gName 1) (gCons (gName 2) gNil))) (tt := tYes)
        (te := tCall spToldP [] E0 (tCons (tVar 1) (tCons (tVar 2) tNil))) rfl scWStr.nd (pi_np (pe_fld (pv 0) rfl))
        (blkOk_by (own := [("product", 1), ("number", 2)]) (N := nWStr) (sc := defScope (sW 16)) (by decide +kernel))
        (fun _ _ _ _ _ => pg_tup rfl (pgs_cons (pg_name (i := 1) scWStr.nd rfl (Or.inl rfl)) (pgs_cons (pg_name (i := 2) scWStr.nd rfl (Or.inl rfl)) pgs_nil))) (fun _ _ _ _ _ => pts_nil)
        (fun _ _ _ _ _ => pe_call (E := E0) GT hr (by rfl) eT.g eT.k bT .nil pass0 (pa_cons (pv 1) (pa_cons (pv 2) pa_nil)))))))), ?_⟩
    refine ⟨_, rfl, p, C, dx, _, _, rfl, ep, T.cl, T.n1, look1 dp, dp, _, rfl, .inl hd.1, hd.2.keyed, ?_⟩
    by_cases e0 : S = []
    · subst e0
      exact if_pos_of rfl (k _ (Same.rfl' (H := H)))
    · have pe : (!(!(S.map enP).isEmpty)) = false := by
        cases S with
        | nil => exact absurd rfl e0
        | cons x l => rfl
      refine if_neg_of pe ?_
      refine ⟨⟨_, rfl⟩, dp, _, hd.1, True.intro, fun od => ?_⟩
      have np : p ≠ dp := fun z => by rw [z, hd.1] at ep; cases ep
      have ep1 : upd H dp (.frz od (DicN P w dp (S.map enP))) p = some (.ins C dx [("_parts", .ref dp)]) := by rw [upd_ne np]; exact ep
      have ks1 : Ks (upd H dp (.frz od (DicN P w dp (S.map enP)))) S := hd.2.kd (po_ne hd) kd_lock
      refine ⟨_, rfl, p, C, dx, _, _, rfl, ep1, T.cl, T.n1, look1 dp, dp, od, _, rfl, upd_same, fun D hD => lc_pure (f := fun i => .str (proS (S.getD i ([], 0, 0)).1 (S.getD i ([], 0, 0)).2.2)) (walk_np (P := P) (w := w) (d := dp) (o := od) (M := S.map enP)) ?_ hD (fun H1 s1 => s1 _ _ upd_same) ?_ gPair_mono ?_⟩
      · rw [List.length_map]
        exact small1000 (by omega)
      · rintro i x H3 H4 hi s3 ⟨t, e', he', rfl, ht, rfl⟩
        rw [List.getElem?_map] at he'
        obtain ⟨e, he, rfl⟩ := Option.map_eq_some_iff.mp he'
        have em := List.mem_of_getElem? he
        have ev : S.getD i ([], 0, 0) = e := by simp [List.getD, he]
        have st : Same H3 (upd H3 t (.tup [.ref (enP e).2.1, (enP e).2.2])) := Same.new _ ht
        refine ⟨t, _, rfl, SqT.of upd_same, rfl, _, _, rfl, _, _, rfl, rfl, rfl, fun Q' hq => ?_⟩
        have nu := isI_lt (wf.num e em).1
        refine ⟨_, rfl, _, rfl, e.2.1, e.1, e.2.2, rfl, (ks1 e em).same (Same.tr s3 st), (wf.pro e em).tri, fewP e em, nu, fun H5 s5 => ?_⟩
        have z := hq _ (Same.tr st s5)
        rw [ev] at z
        exact z
      · intro H5 s5 hD5
        rw [List.length_map, pos_at S fun e => V.str (proS e.1 e.2.2)] at hD5
        have eD : S.map (fun e => V.str (proS e.1 e.2.2)) = (S.map fun e => proS e.1 e.2.2).map V.str := by
          rw [List.map_map]
          rfl
        rw [eD] at hD5
        obtain ⟨nd, hDn⟩ := locked hd.1 hD
        have us := unlocked hd.1 s5
        refine ⟨s5 _ _ upd_same, plusS, D, _, rfl, rfl, .inl (SqL.of (by rw [upd_ne nd]; exact hD5)), ?_, ?_⟩
        · refine joinN_small (sep := plusS) 5121 3 (by rw [l_plus]; exact Nat.le_refl _) (fun x hx => ?_) ?_
          · obtain ⟨e, em, rfl⟩ := List.mem_map.mp hx
            exact proS_len (wf.pro e em).tri (fewP e em) (isI_lt (wf.num e em).1)
          · rw [List.length_map]
            omega
        · have z := k _ us
          unfold poS at z
          rw [if_neg e0] at z
          exact z
end
end K0

/-! ## F16 -/
set_option maxRecDepth 100000
set_option maxHeartbeats 2000000
namespace K0
open PySem L2 NS ND RZ
section
open PySem.Spec PyProof.Rows
variable {X : Cx}
/-- l.count(x), items of any depth -/
def rCntD (K : PySem.W.Frag) : V → List V → Hp → VK → Prop := fun x xs H Q => ∃ (a : Addr) (y : V) (d : PyData) (ds : List PyData), x = V.ref a ∧ xs = [y] ∧ Dp K H (V.ref a) (.list ds) ∧ Dp K H y d ∧
  SeqAt.shaped (.list ds) = true ∧ SeqAt.shaped d = true ∧ Q (.int ((ds.countP fun z => PyData.eqv z d : Nat) : Int)) H
theorem mt_countD (hu : X.A.units + 65 < cLine) : MtR X "list.count" (rCntD X.K) := by
  intro pins s σ H x xs v us Q I rx rxs h
  obtain ⟨a, y, d, ds, rfl, rfl, hl, hy, sl, sd, q⟩ := h
  cases rx
  cases rxs with
  | cons ry rt =>
    rename_i uy ut
    cases rt
    obtain ⟨bs, r1⟩ := Dp.reads I d y uy hy ry
    have hxs : PyData.canLayAll0 ds = true := SeqAt.canLay_of_shaped sl
    have hroom : X.A.units + 1 + min (PyData.depthAll ds) d.depth < cLine := room_in_shaped sd hu
    cases hl with
    | lst hs ha =>
      obtain ⟨its, rv, ⟨⟨cls, dd, data, sls⟩, n, ho, hc, hdn, hdt⟩, hlen⟩ := I.list hs
      simp only at hc hdt
      subst hc hdt
      obtain ⟨as, h4⟩ := Dp.readsAll I ds _ its ha rv
      have hmap : its.map (SeqAt.readOf s.heap) = ds := SeqAt.readsAll_map ds its as hxs h4
      refine call_meets PySem.F.slot_list_count ⟨_, ho, rfl⟩ PySem.F.entry_list_count (PySem.F.args_list_count_2 _ _)
        (SeqAt.list_countAt a its.toArray n dd sls uy (fun u => PyData.eqv (SeqAt.readOf s.heap u) d)) ⟨ho, SeqAt.items_eqAt (vs := its.toArray) (show ReadsAll s.heap its.toArray.toList ds as from h4) r1 hxs (SeqAt.canLay_of_shaped sd) hroom, ?_⟩
      have ec : its.toArray.toList.countP (fun u => PyData.eqv (SeqAt.readOf s.heap u) d) = ds.countP fun z => PyData.eqv z d := by
        rw [← hmap, List.countP_map]
        rfl
      refine ⟨.int ((ds.countP fun z => PyData.eqv z d : Nat) : Int), H, I.tok _, ⟨s.toks, ?_⟩, q⟩
      show Value.int ((its.toArray.toList.countP (fun u => PyData.eqv (SeqAt.readOf s.heap u) d) : Nat) : Int) s.toks = Value.int _ s.toks
      rw [ec]
/-- l.count(x) in a block -/
theorem pe_countB (K : PySem.W.Frag) {o e : Expr} {to te : TE} {apos cpos : Pos} (hu : X.A.units + 65 < cLine) (ho : PE X o to) (ha : PE X e te)
    (hbase : attributeBase o "count" X.env (eval o X.env) = eval o X.env := by rfl)
    (hfew : ((backTo cpos (starEach [e] X.env)).all (fun x => !x.1) && (backToKw cpos (keywordEach [] X.env)).all (fun x => x.1.isSome)
      && decide (([e] : List Expr).length + ([] : List Keyword).length + (if ([] : List Keyword).isEmpty then 0 else 1) < 30)) = true := by rfl)
    (hline : (apos.endLine == cpos.line) = true := by rfl) (hs : starEach [e] X.env = (false, eval e X.env) :: starEach [] X.env := by rfl) (hplain : (backTo cpos (starEach [] X.env)).any (·.1) = false := by rfl) (e3 : X.K = K := by rfl) :
    PE X (.Call (.Attribute o "count" apos) [e] [] cpos) (tBM K "list" (rCntD K) to (tCons te tNil)) := by
  subst e3
  exact pe_bm PySem.F.plainAttrs_list PySem.F.slot_list_count PySem.F.type_list_count (mt_countD hu) ho (pa_cons ha pa_nil hs) hbase hfew hline hs hplain
end
theorem dpAll_es {K : PySem.W.Frag} {H : Hp} : ∀ {ts : List Addr} {es : List Ent}, Es H ts es → DpAll K H (ts.map V.ref) (es.map dE)
  | _, _, .nil => .nil
  | _, _, .cons h r => .cons h.dp (dpAll_es r)
theorem lay_es : ∀ {es : List Ent}, (∀ e ∈ es, nameS e.1 = true) → PyData.canLayAll0 (es.map dE) = true
  | [], _ => rfl
  | e :: es, h => by
    rw [List.map_cons, PyData.canLayAll0, dE_lay (h e List.mem_cons_self), lay_es fun x hx => h x (List.mem_cons_of_mem _ hx)]
    rfl
theorem depth_es : ∀ es : List Ent, PyData.depthAll (es.map dE) ≤ 2
  | [] => by simp [PyData.depthAll]
  | e :: es => by
    have h1 := depth_es es
    have h2 := dE_depth e
    simp only [List.map_cons, PyData.depthAll]
    omega
theorem es_shaped {es : List Ent} (h : ∀ e ∈ es, nameS e.1 = true) : SeqAt.shaped (.list (es.map dE)) = true := by
  have h1 := depth_es es
  have h2 : PyData.depth (.list (es.map dE)) ≤ 64 := by
    simp only [PyData.depth]
    omega
  show (PyData.canLay0 (.list (es.map dE)) && decide (PyData.depth (.list (es.map dE)) ≤ 64)) = true
  rw [Bool.and_eq_true]
  exact ⟨by simp only [PyData.canLay0]; exact lay_es h, decide_eq_true h2⟩
theorem cnt_es (es : List Ent) (e : Ent) : (es.map dE).countP (fun z => PyData.eqv z (dE e)) = es.count e := by
  rw [List.countP_map, List.count]
  refine List.countP_congr fun x _ => ?_
  show PyData.eqv (dE x) (dE e) = true ↔ (x == e) = true
  rw [dE_eqv]
  simp
theorem len_sub {α : Type} [DecidableEq α] : ∀ {l m : List α}, l.Nodup → (∀ x ∈ l, x ∈ m) → l.length ≤ m.length
  | [], _, _, _ => Nat.zero_le _
  | a :: l, m, nd, h => by
    have z := List.nodup_cons.mp nd
    have am : a ∈ m := h a List.mem_cons_self
    have r := len_sub (m := m.erase a) z.2 fun x hx => (List.mem_erase_of_ne fun e : x = a => z.1 (e ▸ hx)).mpr (h x (List.mem_cons_of_mem _ hx))
    rw [List.length_erase_of_mem am] at r
    have := List.length_pos_of_mem am
    rw [List.length_cons]
    omega
theorem AscE.nodup {es : List Ent} (h : AscE es) : es.Nodup := h.imp fun {a b} h e => by rw [e, ltE_irr] at h; cases h
/-- a triple is put behind -/
theorem tri_put {H : Hp} {D m b : Addr} {ts : List Addr} {p : Pr} {t' : Tri} (hD : H D = some (.lst (ts.map V.ref))) (h : Paired (fun t u => TriA H t u) ts p) (hm : H m = none) (hb : RowA H b t'.2.1) :
    Paired (fun t u => TriA (upd (upd H m (.tup [.str t'.1, .ref b, .int t'.2.2])) D (.lst ((ts ++ [m]).map V.ref))) t u) (ts ++ [m]) (p ++ [t']) := by
  have nm : m ≠ D := fun z => by rw [z, hD] at hm; cases hm
  have hb' : H b = some (.tup (t'.2.1.map V.int)) := hb
  have nb : b ≠ D := fun z => by
    rw [z, hD] at hb'
    cases hb'
  have s1 : Same H (upd H m (.tup [.str t'.1, .ref b, .int t'.2.2])) := Same.new _ hm
  refine Paired.snoc (Paired.mapP (Paired.mapP h fun _ _ x => x.same s1) fun _ _ x => x.kd (d := D) (fun xs z => ?_) Kd.put) ⟨b, ?_, ?_⟩
  · rw [upd_ne (Ne.symm nm), hD] at z
    cases z
  · rw [upd_ne nm, upd_same]
  · show upd _ _ _ b = _
    rw [upd_ne nb]
    exact s1 _ _ hb
/-! ### the law's product -/
theorem v65 {k : Nat} {A : Around} (r : Room k A) : A.units + 65 < cLine := by have := r.un; omega
theorem map_entT (l es : List Ent) : (l.map fun e => ((e.1, e.2, ((es.count e : Nat) : Int)) : Tri)).map entT = l := by
  rw [List.map_map]
  exact List.map_id _
theorem entT_mk (e : Ent) (n : Int) : entT (e.1, e.2, n) = e := rfl
abbrev sProd : Stmt := top 34
structure IsProd (es : List Ent) (p : Pr) : Prop where
  asc : AscE (p.map entT)
  mem : ∀ e, e ∈ p.map entT ↔ e ∈ es
  num : ∀ t ∈ p, t.2.2 = (es.count (entT t) : Nat)
def spProd : Sp := fun vs H Q _ => ∃ (l : Addr) (ts : List Addr) (es : List Ent), vs = [.ref l] ∧ H l = some (.lst (ts.map V.ref)) ∧ Es H ts es ∧ (∀ e ∈ es, nameS e.1 = true) ∧ es.length < 64 ∧
  ∀ H' a p, Same H H' → ProA H' a p → IsProd es p → Q (.ref a) H'
section
variable {P : Program} {w : World} {K : PySem.W.Frag} {mg : Str → Option Value} {base : Heap}
abbrev nProd : List Str := ["_law_pairs", "_law_pair"]
theorem scProd : FnScope nProd ["_law_pairs"] (defScope sProd) := ⟨rfl, rfl, rfl, by decide +kernel, rfl, by decide +kernel, by decide +kernel⟩
theorem ok_prod {f : Addr} {fd : FuncData} (F : Fun K "_law_product" "_law_product" sProd f fd) (B : TS K mg) : FnOk P w K mg base CX0 1 f fd ["_law_pairs"] spProd := by
  refine F.ok scProd (fun vs H Q E h => ?_) (fun cdv A outer s H vs Q E hr h => ?_)
  · obtain ⟨l, ts, es, rfl, _⟩ := h
    rfl
  · obtain ⟨l, ts, es, rfl, hl, he, nam, few, k⟩ := h
    have lt : ts.length = es.length := Paired.length he
    refine ⟨_, pss_one (ps_ret (pe_callTy (T := "tuple") call_tuple_of (by rfl) B.tup (by decide +kernel) (pa_cons
      (pe_lc (own := [("_law_pair", 1)]) (g := gName 1) (tt := tYes) rfl scProd.nd (pi_list (pe_callB (cr_sortSet rfl hr.units) (by rfl) B.srt (by decide +kernel) (pa_cons (pe_callTy (T := "set") (cr_setOf rfl hr.units) (by rfl) B.set (by decide +kernel) (pa_cons (pv 0) pa_nil)) pa_nil)))
        (blkOk_by (own := [("_law_pair", 1)]) (N := nProd) (sc := defScope sProd) (by decide +kernel)) (fun _ _ _ _ _ => pg_name (i := 1) scProd.nd rfl (Or.inl rfl)) (fun _ _ _ _ _ => pts_nil)
        (fun _ _ _ _ _ => pe_tup (pa_cons (pe_ix (r := rIxT K) ix_tup (pv 1) pe_int (fun _ _ => rfl)) (pa_cons (pe_ix (r := rIxT K) ix_tup (pv 1) pe_int (fun _ _ => rfl)) (pa_cons (pe_countB K (v65 hr) (pv 0) (pv 1)) pa_nil))))) pa_nil))), ?_⟩
    refine ⟨_, rfl, ?_⟩
    dsimp only [tNil]
    refine asc_ents hl he (by omega) fun H1 q ts1 es1 s1 hq hq1 he1 asc mem => ?_
    have len1 : ts1.length = es1.length := Paired.length he1
    have few1 : es1.length ≤ es.length := by
      exact len_sub (AscE.nodup asc) fun e h => (mem e).mp h
    refine ⟨q, rfl, ⟨_, SqL.of hq1⟩, fun D hD => walk_it (walk_list (K := K) (a := q) (xs := ts1.map V.ref))
      (fun i H' => Same H1 H' ∧ ∃ us, H' D = some (.lst (us.map V.ref)) ∧ Paired (fun t u => TriA H' t u) us ((es1.take i).map fun e => (e.1, e.2, ((es.count e : Nat) : Int)))) ⟨Same.new _ hD, [], upd_same, by rw [List.take_zero]; exact .nil⟩ (fun i H' _ r => SqL.of (r.1 _ _ hq1)) ?_ ?_⟩
    · rintro i x H3 H4 hi ⟨s3, us, hD3, p3⟩ ⟨rfl, hx⟩
      rw [List.getElem?_map] at hx
      obtain ⟨t, ht, rfl⟩ := Option.map_eq_some_iff.mp hx
      obtain ⟨e, hte, ea⟩ := paired_get he1 ht
      obtain ⟨b, g1, g2⟩ := ea.same s3
      have em := List.mem_of_getElem? hte
      have se := Same.tr s1 s3
      refine ⟨rfl, ?_⟩
      dsimp only [tYes]
      rw [if_pos rfl]
      refine ⟨_, rfl, t, _, _, .str e.1, rfl, rfl, SqT.of g1, rfl, _, rfl, t, _, _, .ref b, rfl, rfl, SqT.of g1, rfl, _, rfl, .inl ⟨rfl, _, SqL.of (se _ _ hl)⟩, _, rfl, l, .ref t, dE e, es.map dE, rfl, rfl, .lst (SqL.of (se _ _ hl)) (dpAll_es (he.same se)), (ea.same s3).dp, es_shaped nam, dE_shaped (nam e ((mem e).mp em)), ?_⟩
      rw [cnt_es]
      dsimp only [tNil]
      refine ⟨by show 3 ≤ sizeLine; rw [sizeLine_eq]; decide, fun m hm => ?_⟩
      have nm : D ≠ m := fun z => by rw [← z, hD3] at hm; cases hm
      have l3 : us.length = _ := Paired.length p3
      rw [List.length_map, List.length_take] at l3
      refine ⟨_, by rw [upd_ne nm]; exact hD3, ?_, ?_, us ++ [m], ?_, ?_⟩
      · rw [List.length_map, l3]
        exact small1000 (by omega)
      · intro c o eo
        rw [upd_ne (ne_of_none eo hD), upd_ne (ne_of_none (s3 _ _ eo) hm)]
        exact s3 _ _ eo
      · rw [upd_same, List.map_append]
        rfl
      · have z := tri_put (t' := (e.1, e.2, ((es.count e : Nat) : Int))) hD3 p3 hm g2
        rw [List.take_add_one, hte, List.map_append]
        rw [List.map_append] at z
        exact z
    · rintro H3 ⟨s3, us, hD3, p3⟩
      rw [List.length_map, len1, List.take_length] at p3
      refine ⟨D, _, rfl, .inl ⟨SqL.of hD3, fun m hm => ?_⟩⟩
      have sm : Same H3 (upd H3 m (.tup (us.map V.ref))) := Same.new _ hm
      refine k _ m (es1.map fun e => (e.1, e.2, ((es.count e : Nat) : Int))) (Same.tr s1 (Same.tr s3 sm)) ⟨us, upd_same, Paired.mapP p3 fun _ _ x => x.same sm⟩ ⟨?_, fun e => ?_, fun t ht => ?_⟩
      · rw [map_entT]
        exact asc
      · rw [map_entT]
        exact mem e
      · obtain ⟨e, _, rfl⟩ := List.mem_map.mp ht
        rfl
end
end K0

/-! ## F17 -/
set_option maxRecDepth 100000
set_option maxHeartbeats 2000000
namespace K0
open PySem L2 NS ND RZ
/-! ### entries displayed -/
def tInts : List Int → TA
  | [] => tNil
  | i :: l => tCons (tC (.int i)) (tInts l)
theorem ints_read : ∀ (l : List Int) {σ : L2.St} {H : Hp} {Q : List V → Hp → Prop}, Q (l.map V.int) H → tInts l σ H Q
  | [], _, _, _, h => h
  | i :: l, σ, H, Q, h => ints_read l (Q := fun xs H2 => Q (.int i :: xs) H2) h
def tEnt (e : Ent) : TE := tTup (tCons (tC (.str e.1)) (tCons (tTup (tInts e.2)) tNil))
theorem ent_read (e : Ent) (few : e.2.length ≤ 1000) {σ : L2.St} {H : Hp} {Q : VK} (h : ∀ t H', Same H H' → EntA H' t e → Q (.ref t) H') : tEnt e σ H Q := by
  refine ints_read (σ := σ) e.2 ⟨?_, fun b hb => ⟨by show 2 ≤ sizeLine; rw [sizeLine_eq]; decide, fun t ht => ?_⟩⟩
  · rw [List.length_map]
    exact Nat.le_of_lt (small1000 few)
  · have s1 : Same H (upd H b (.tup (e.2.map V.int))) := Same.new _ hb
    have s2 : Same (upd H b (.tup (e.2.map V.int))) (upd (upd H b (.tup (e.2.map V.int))) t (.tup [.str e.1, .ref b])) := Same.new _ ht
    exact h t _ (Same.tr s1 s2) ⟨b, upd_same, s2 _ _ upd_same⟩
def tEnts : List Ent → TA
  | [] => tNil
  | e :: l => tCons (tEnt e) (tEnts l)
theorem ents_read : ∀ (l : List Ent), (∀ e ∈ l, e.2.length ≤ 1000) → ∀ {σ : L2.St} {H : Hp} {Q : List V → Hp → Prop}, (∀ ts H', Same H H' → Es H' ts l → Q (ts.map V.ref) H') → tEnts l σ H Q
  | [], _, _, H, _, h => h [] H Same.rfl' .nil
  | e :: l, few, σ, H, Q, h => by
    show tEnt e σ H fun x H1 => tEnts l σ H1 fun xs H2 => Q (x :: xs) H2
    exact ent_read e (few e List.mem_cons_self) fun t H1 s1 h1 => ents_read l (fun x hx => few x (List.mem_cons_of_mem _ hx)) fun ts H2 s2 h2 => h (t :: ts) H2 (Same.tr s1 s2) (.cons (h1.same s2) h2)
/-! ### the pool -/
def pool : List Ent := [("r", [1, 2]), ("r", [1, 3]), ("s", [2]), ("t", [0, 0, 7]), ("r", [10, 2])]
theorem pool_nam : ∀ e ∈ pool, nameS e.1 = true := by decide +kernel
theorem pool_row : ∀ e ∈ pool, rowL (e.2.map V.int) = true := by decide +kernel
theorem pool_few : ∀ e ∈ pool, e.2.length ≤ 1000 := by decide +kernel
/-- some of the pool's -/
theorem es_pick {H : Hp} {ts : List Addr} {es : List Ent} (h : Es H ts es) : ∀ acc : List V, (∀ y ∈ acc, y ∈ ts.map V.ref) → ∃ us vs, acc = us.map V.ref ∧ Es H us vs ∧ vs.length = acc.length ∧ ∀ e ∈ vs, e ∈ es
  | [], _ => ⟨[], [], rfl, .nil, rfl, fun e h => by cases h⟩
  | y :: acc, hy => by
    obtain ⟨us, vs, e1, e2, e3, e4⟩ := es_pick h acc fun x hx => hy x (List.mem_cons_of_mem _ hx)
    obtain ⟨t, ht, rfl⟩ := List.mem_map.mp (hy y List.mem_cons_self)
    obtain ⟨i, hi⟩ := List.mem_iff_getElem?.mp ht
    obtain ⟨e, he, q⟩ := paired_get h hi
    refine ⟨t :: us, e :: vs, by rw [e1]; rfl, .cons q e2, by rw [List.length_cons, List.length_cons, e3], fun x hx => ?_⟩
    rcases List.mem_cons.mp hx with z | z
    · rw [z]
      exact List.mem_of_getElem? he
    · exact e4 x z
theorem ascB_of : ∀ (es : List Ent), AscE es → ascB (es.map kE) = true
  | [], _ => rfl
  | [_], _ => rfl
  | a :: b :: r, h => by
    have z := List.pairwise_cons.mp h
    have q := z.1 b List.mem_cons_self
    show (ltK (kE a) (kE b) && ascB ((b :: r).map kE)) = true
    rw [show ltK (kE a) (kE b) = true from q, ascB_of (b :: r) z.2]
    rfl
theorem IsProd.len {es : List Ent} {p : Pr} (h : IsProd es p) : p.length ≤ es.length := by
  have z := len_sub h.asc.nodup fun e he => (h.mem e).mp he
  rw [List.length_map] at z
  exact z
theorem IsProd.wf {es : List Ent} {p : Pr} (h : IsProd es p) (few : es.length ≤ 3) (hp : ∀ e ∈ es, e ∈ pool) : WfP p := by
  refine ⟨fun t ht => ?_, ?_, by have := h.len; omega⟩
  · have em : entT t ∈ es := (h.mem _).mp (List.mem_map.mpr ⟨t, ht, rfl⟩)
    have pm := hp _ em
    have c1 : 0 < es.count (entT t) := List.count_pos_iff.mpr em
    have c2 : es.count (entT t) ≤ es.length := List.count_le_length
    refine ⟨pool_nam _ pm, pool_row _ pm, ?_⟩
    rw [h.num t ht]
    show (isI (.int ((es.count (entT t) : Nat) : Int)) && (decide (1 ≤ ((es.count (entT t) : Nat) : Int)) && decide (((es.count (entT t) : Nat) : Int) ≤ 64))) = true
    rw [isI_few (by omega), Bool.true_and, Bool.and_eq_true]
    exact ⟨decide_eq_true (by omega), decide_eq_true (by omega)⟩
  · have z := ascB_of _ h.asc
    rw [List.map_map] at z
    exact z
/-- what the law draws -/
structure GoodL (L : Po) : Prop where
  wf : WfL L
  few : L.length ≤ 3
  fewP : ∀ e ∈ L, e.1.length ≤ 3
  pool : ∀ e ∈ L, ∀ t ∈ e.1, entT t ∈ pool
  num : ∀ e ∈ L, 1 ≤ e.2.2 ∧ e.2.2 ≤ 3
  tim : ∀ e ∈ L, ∀ t ∈ e.1, 1 ≤ t.2.2 ∧ t.2.2 ≤ 3
def setO (q : Pr) (n : Int) (e : Pr × Addr × Int) : Pr × Addr × Int := if e.1 = q then (e.1, e.2.1, n) else e
def putO (L : Po) (q : Pr) (a : Addr) (n : Int) : Po := if (L.map fun e => e.1).contains q then L.map (setO q n) else L ++ [(q, a, n)]
theorem putN_en (L : Po) (q : Pr) (a : Addr) (n : Int) : putN (L.map enP) (kP q) a (.int n) = (putO L q a n).map enP := by
  have h : (valN (L.map enP) (kP q)).isSome = (L.map fun e => e.1).contains q := by
    induction L with
    | nil => rfl
    | cons e L ih =>
      show (if kP e.1 = kP q then some (V.int e.2.2) else valN (L.map enP) (kP q)).isSome = ((e.1 :: L.map fun e => e.1).contains q)
      rw [List.contains_cons]
      by_cases c : e.1 = q
      · rw [if_pos (by rw [c])]
        simp [c]
      · rw [if_neg fun z => c (kP_inj z), ih]
        have : (q == e.1) = false := beq_eq_false_iff_ne.mpr (Ne.symm c)
        rw [this, Bool.false_or]
  unfold putN putO
  rw [h]
  split
  · rw [List.map_map, List.map_map]
    refine List.map_congr_left fun e _ => ?_
    show setN (kP q) (.int n) (enP e) = enP (setO q n e)
    unfold setN setO
    by_cases c : e.1 = q
    · have z : (enP e).1 = kP q := by show kP e.1 = _; rw [c]
      rw [if_pos z, if_pos c]
      rfl
    · have z : ¬ (enP e).1 = kP q := fun y => c (kP_inj y)
      rw [if_neg z, if_neg c]
  · rw [List.map_append]
    rfl
theorem setO_key (q : Pr) (n : Int) (e : Pr × Addr × Int) : (setO q n e).1 = e.1 ∧ (setO q n e).2.1 = e.2.1 := by
  unfold setO
  split <;> exact ⟨rfl, rfl⟩
theorem putO_mem {L : Po} {q : Pr} {a : Addr} {n : Int} {e : Pr × Addr × Int} (h : e ∈ putO L q a n) : (∃ u ∈ L, e.1 = u.1 ∧ e.2.1 = u.2.1 ∧ (e.2.2 = u.2.2 ∨ e.2.2 = n)) ∨ e = (q, a, n) := by
  unfold putO at h
  split at h
  · obtain ⟨u, um, rfl⟩ := List.mem_map.mp h
    refine .inl ⟨u, um, (setO_key q n u).1, (setO_key q n u).2, ?_⟩
    unfold setO
    split
    · exact .inr rfl
    · exact .inl rfl
  · rcases List.mem_append.mp h with h | h
    · exact .inl ⟨e, h, rfl, rfl, .inl rfl⟩
    · exact .inr (List.mem_singleton.mp h)
theorem putO_keys {L : Po} {q : Pr} {a : Addr} {n : Int} (h : (L.map fun e => e.1).Nodup) : ((putO L q a n).map fun e => e.1).Nodup := by
  unfold putO
  split
  · rw [List.map_map]
    have z : ((fun e : Pr × Addr × Int => e.1) ∘ setO q n) = fun e => e.1 := funext fun e => (setO_key q n e).1
    rw [z]
    exact h
  · rename_i c
    rw [List.map_append]
    refine List.nodup_append.mpr ⟨h, by simp, fun x hx y hy e => c ?_⟩
    have yq : y = q := List.mem_singleton.mp hy
    rw [e, yq] at hx
    exact List.contains_iff_mem.mpr hx
theorem putO_len (L : Po) (q : Pr) (a : Addr) (n : Int) : (putO L q a n).length ≤ L.length + 1 := by
  unfold putO
  split
  · rw [List.length_map]
    omega
  · rw [List.length_append]
    exact Nat.le_refl _
theorem GoodL.put {L : Po} (g : GoodL L) (few : L.length ≤ 2) {es : List Ent} {q : Pr} (h : IsProd es q) (few3 : es.length ≤ 3) (hp : ∀ e ∈ es, e ∈ K0.pool) {a : Addr} {n : Int} (n1 : 1 ≤ n) (n3 : n ≤ 3) : GoodL (putO L q a n) := by
  have hw := h.wf few3 hp
  have hn : isI (.int n) = true := by
    have z := isI_few (n := n.toNat) (by omega)
    have e : ((n.toNat : Nat) : Int) = n := by omega
    rw [e] at z
    exact z
  have len := putO_len L q a n
  have tm : ∀ t ∈ q, entT t ∈ K0.pool ∧ 1 ≤ t.2.2 ∧ t.2.2 ≤ 3 := fun t ht => by
    have em : entT t ∈ es := (h.mem _).mp (List.mem_map.mpr ⟨t, ht, rfl⟩)
    have c1 : 0 < es.count (entT t) := List.count_pos_iff.mpr em
    have c2 : es.count (entT t) ≤ es.length := List.count_le_length
    have := h.num t ht
    exact ⟨hp _ em, by omega, by omega⟩
  refine ⟨⟨fun e he => ?_, fun e he => ?_, putO_keys g.wf.one, by omega⟩, by omega, fun e he => ?_, fun e he => ?_, fun e he => ?_, fun e he => ?_⟩
  all_goals rcases putO_mem he with ⟨u, um, e1, _, e3⟩ | rfl
  · rw [e1]; exact g.wf.pro u um
  · exact hw
  · rcases e3 with e3 | e3
    · rw [e3]; exact g.wf.num u um
    · rw [e3]; exact ⟨hn, by omega⟩
  · exact ⟨hn, by show 0 < n; omega⟩
  · rw [e1]; exact g.fewP u um
  · have := h.len
    show q.length ≤ 3
    omega
  · rw [e1]; exact g.pool u um
  · exact fun t ht => (tm t ht).1
  · rcases e3 with e3 | e3
    · rw [e3]; exact g.num u um
    · rw [e3]; exact ⟨n1, n3⟩
  · exact ⟨n1, n3⟩
  · rw [e1]; exact g.tim u um
  · exact fun t ht => (tm t ht).2
theorem GoodL.nil : GoodL [] := ⟨⟨nofun, nofun, .nil, Nat.zero_le _⟩, Nat.zero_le _, nofun, nofun, nofun, nofun⟩
theorem Ks.put {H : Hp} {L : Po} {q : Pr} {a : Addr} {n : Int} (h : Ks H L) (hq : ProA H a q) : Ks H (putO L q a n) := fun e he => by
  rcases putO_mem he with ⟨u, um, e1, e2, _⟩ | rfl
  · rw [e1, e2]
    exact h u um
  · exact hq
end K0

/-! ## F18 -/
set_option maxRecDepth 100000
set_option maxHeartbeats 2000000
namespace K0
open PySem L2 NS ND RZ
theorem none_kd {H H' : Hp} {p m : Addr} (hp' : DiceAt H' p) (k : Kd p H H') (h : H' m = none) : H m = none := by
  cases e : H m with
  | none => rfl
  | some o =>
    have n : m ≠ p := fun z => by
      obtain ⟨x, y, w, q⟩ := hp'
      rw [z, q] at h
      cases h
    rw [k _ _ n e] at h
    cases h
theorem DiceAt.off {H : Hp} {p l : Addr} (h : DiceAt H p) (hl : H l = none) : l ≠ p := by
  obtain ⟨x, y, z, e⟩ := h
  exact fun q => by rw [q, e] at hl; cases hl
theorem DiceAt.on {H H' : Hp} {p : Addr} (h : DiceAt H p) (s : Same H H') : DiceAt H' p := by
  obtain ⟨x, y, z, e⟩ := h
  exact ⟨x, y, z, s _ _ e⟩
theorem DiceAt.ne {H : Hp} {p : Addr} (h : DiceAt H p) : ∀ xs, H p ≠ some (.tup xs) := fun xs z => by
  obtain ⟨x, y, w, e⟩ := h
  rw [e] at z
  cases z
theorem lst_ents (l : List Ent) (few : ∀ e ∈ l, e.2.length ≤ 1000) (len : l.length ≤ 1000) {σ : L2.St} {H : Hp} {Q : VK} (h : ∀ ts H1 a, Same H H1 → Es H1 ts l → H1 a = none → Q (.ref a) (upd H1 a (.lst (ts.map V.ref)))) : tLst (tEnts l) σ H Q := by
  show tEnts l σ H fun xs H1 => xs.length ≤ sizeLine ∧ ∀ p, H1 p = none → Q (.ref p) (upd H1 p (.lst xs))
  refine ents_read l few fun ts H1 s1 e1 => ⟨?_, fun a ha => h ts H1 a s1 e1 ha⟩
  have z : ts.length = l.length := Paired.length e1
  rw [List.length_map, z]
  exact Nat.le_of_lt (small1000 len)
/-! ### _law_polynomial -/
abbrev sPoly : Stmt := top 35
def spPoly (P : Program) (w : World) : Sp := fun vs H Q _ => ∃ (p : Addr), vs = [.ref p] ∧ DiceAt H p ∧ ∀ H' d L, Kd p H H' → H d = none → DiceAt H' p → PoA P w H' d L → GoodL L → Q (.ref d) H'
section
variable {P : Program} {w : World} {K : PySem.W.Frag} {mg : Str → Option Value} {base : Heap} {fR fP fQ : Addr} {fdR fdP fdQ : FuncData}
abbrev nPoly : List Str := ["_law_dice_here", "_law_pool", "_law_found", "_law_turn", "_law_pairs", "_law_step"]
theorem scPoly : FnScope nPoly ["_law_dice_here"] (defScope sPoly) := ⟨rfl, rfl, rfl, by decide +kernel, rfl, by decide +kernel, by decide +kernel⟩
theorem ok_poly {f : Addr} {fd : FuncData} (F : Fun K "_law_polynomial" "_law_polynomial" sPoly f fd) (T : TM K mg fR fP)
    (G : FnOk P w K mg base CX0 1 fR fdR ["_law_dice_here", "_law_total"] spRoll) (bR : Binds K fdR ["_law_dice_here", "_law_total"] [])
    (GP : FnOk P w K mg base CX0 2 fP fdP ["_law_dice_here", "_law_items"] spPick) (bP : Binds K fdP ["_law_dice_here", "_law_items"] [])
    (eQ : Glo K mg "_law_product" fQ) (GQ : FnOk P w K mg base CX0 1 fQ fdQ ["_law_pairs"] spProd) (bQ : Binds K fdQ ["_law_pairs"] []) :
    FnOk P w K mg base CX0 3 f fd ["_law_dice_here"] (spPoly P w) := by
  refine F.ok scPoly (fun vs H Q E h => ?_) (fun cdv A outer s H vs Q E hr h => ?_)
  · obtain ⟨p, rfl, _⟩ := h
    rfl
  · obtain ⟨p, rfl, hp, k⟩ := h
    refine ⟨_, pss_cons (ps_set (i := 1) scPoly.nd rfl (Or.inr rfl) (te := tLst (tEnts pool)) (pe_lst (pa_cons (pe_tup (pa_cons pe_str (pa_cons (pe_tup (pa_cons pe_int (pa_cons pe_int pa_nil))) pa_nil)))
          (pa_cons (pe_tup (pa_cons pe_str (pa_cons (pe_tup (pa_cons pe_int (pa_cons pe_int pa_nil))) pa_nil))) (pa_cons (pe_tup (pa_cons pe_str (pa_cons (pe_tup (pa_cons pe_int pa_nil)) pa_nil)))
          (pa_cons (pe_tup (pa_cons pe_str (pa_cons (pe_tup (pa_cons pe_int (pa_cons pe_int (pa_cons pe_int pa_nil)))) pa_nil))) (pa_cons (pe_tup (pa_cons pe_str (pa_cons (pe_tup (pa_cons pe_int (pa_cons pe_int pa_nil))) pa_nil))) pa_nil)))))))
      (pss_cons (ps_set (i := 2) scPoly.nd rfl (Or.inl rfl) pe_nnew)
      (pss_cons (ps_for PassesOwn.never rfl (pi_range1 (by rfl) T.range (pa_cons (pe_call (E := E0) G (hr.mono (by decide)) (by rfl) T.gR T.kR bR .nil pass0 (pa_cons (pv 0) (pa_cons pe_int pa_nil))) pa_nil)) (pg_name (i := 3) scPoly.nd rfl (Or.inl rfl))
        (pss_cons (ps_setLc (i := 4) (own := [("_law_step", 5)]) (g := gName 5) (tt := tYes) (by rfl) scPoly.nd rfl rfl (sw_true rfl rfl rfl (by decide +kernel))
            (pi_range1 (by rfl) T.range (pa_cons (pe_call (E := E0) G (hr.mono (by decide)) (by rfl) T.gR T.kR bR .nil pass0 (pa_cons (pv 0) (pa_cons pe_int pa_nil))) pa_nil))
            (blkOk_by (own := [("_law_step", 5)]) (N := nPoly) (sc := defScope sPoly) (by decide +kernel)) (fun _ _ _ _ _ => pg_name (i := 5) scPoly.nd rfl (Or.inl rfl)) (fun _ _ _ _ _ => pts_nil)
            (fun _ _ _ _ _ => pe_call (E := E0) GP hr (by rfl) T.gP T.kP bP .nil pass0 (pa_cons (pv 0) (pa_cons (pv 1) pa_nil))))
        (pss_one (ps_nput (u9 hr) (pv 2) (pe_call (E := E0) GQ (hr.mono (by decide)) (by rfl) eQ.g eQ.k bQ .nil pass0 (pa_cons (pv 4) pa_nil)) (pe_op op_add pe_int (pe_call (E := E0) G (hr.mono (by decide)) (by rfl) T.gR T.kR bR .nil pass0 (pa_cons (pv 0) (pa_cons pe_int pa_nil)))) (by rfl)))))
      (pss_one (ps_ret (pv 2))))), ?_⟩
    dsimp only [tSeq, tAsg]
    refine lst_ents pool pool_few (by decide) fun ts H1 l s1 e1 hl => ?_
    have tl : (ts.map V.ref).length = 5 := by rw [List.length_map, Paired.length e1]; rfl
    intro d hd
    have s2 : Same H1 (upd H1 l (.lst (ts.map V.ref))) := Same.new _ hl
    have s3 : Same (upd H1 l (.lst (ts.map V.ref))) (upd (upd H1 l (.lst (ts.map V.ref))) d (DicN P w d [])) := Same.new _ hd
    have s03 := Same.tr s1 (Same.tr s2 s3)
    have lp : l ≠ p := (hp.on s1).off hl
    have dp : d ≠ p := (hp.on (Same.tr s1 s2)).off hd
    have ld : l ≠ d := fun z => by rw [← z, upd_same] at hd; cases hd
    have hd0 : H d = none := by
      cases e : H d with
      | none => rfl
      | some o => rw [(Same.tr s1 s2) _ _ e] at hd; cases hd
    refine ⟨_, rfl, p, 4, rfl, hp.on s03, by decide, by decide, fun r H4 r0 r4 kd4 dc4 => ?_⟩
    obtain ⟨n, rfl⟩ : ∃ n : Nat, r = n := ⟨r.toNat, by omega⟩
    refine ⟨(n : Int), rfl, by omega, by omega, for_range (n := n) (fun i σ H' => (∃ u v x, σ = [some (.ref p), some (.ref l), some (.ref d), u, v, x]) ∧ Kd p H H' ∧ DiceAt H' p ∧ H' l = some (.lst (ts.map V.ref)) ∧ Es H' ts pool ∧ ∃ L, PoA P w H' d L ∧ GoodL L ∧ L.length ≤ i)
      ⟨⟨none, none, none, rfl⟩, (Kd.of s03).tr kd4, dc4, kd4 _ _ lp (s3 _ _ upd_same), ((e1.same (Same.tr s2 s3)).kd (DiceAt.ne (hp.on s03)) kd4), [], ⟨kd4 _ _ dp upd_same, nofun⟩, GoodL.nil, Nat.le_refl _⟩ ?_ ?_⟩
    · rintro i σ H5 hi ⟨⟨u, v, x, rfl⟩, kd5, dc5, hl5, es5, L, pa, g, len⟩
      refine ⟨_, rfl, p, 4, rfl, dc5, by decide, by decide, fun r2 H6 r20 r24 kd6 dc6 => ?_⟩
      obtain ⟨m, rfl⟩ : ∃ m : Nat, r2 = m := ⟨r2.toNat, by omega⟩
      have hl6 := kd6 _ _ lp hl5
      refine ⟨(m : Int), rfl, by omega, by omega, fun D hD => lc_roll (p := p) (Gd := fun y => y ∈ ts.map V.ref) walk_range (small1000 (by omega)) hD dc6 (fun _ _ _ => True.intro) ?_ gName_mono ?_⟩
      · rintro j x H7 H8 hj kd7 dc7 ⟨rfl, rfl⟩
        exact ⟨rfl, fun Q' hq => ⟨_, rfl, _, rfl, p, l, _, rfl, dc7, lp, kd7 _ _ lp hl6, by omega, by omega, fun v H9 vm kd9 dc9 => hq v H9 vm kd9 dc9⟩⟩
      · intro H7 acc kd7 dc7 hD7 la Gd
        have Dp : D ≠ p := dc6.off hD
        refine ⟨_, rfl, p, 3, rfl, dc7, by decide, by decide, fun r3 H8 r30 r33 kd8 dc8 => ?_⟩
        have kd58 : Kd p H5 H8 := kd6.tr (kd7.tr kd8)
        have es8 : Es H8 ts pool := es5.kd (DiceAt.ne dc5) kd58
        have hD8 := kd8 _ _ Dp hD7
        obtain ⟨us, vs, ea, ev, lv, vp⟩ := es_pick es8 acc Gd
        rw [ea] at hD8
        refine ⟨_, _, rfl, rfl, _, rfl, _, rfl, D, us, vs, rfl, hD8, ev, fun e he => pool_nam e (vp e he), by omega, fun H9 a q s9 hq isP => ?_⟩
        have kd59 : Kd p H5 H9 := kd58.tr (Kd.of s9)
        have hd9 : H9 d = some (DicN P w d (L.map enP)) := kd59 _ _ dp pa.1
        have ks9 : Ks H9 L := pa.2.kd (DiceAt.ne dc5) kd59
        have nt : ∀ xs, H9 d ≠ some (.tup xs) := po_ne ⟨hd9, ks9⟩
        refine ⟨d, a, _, kP q, rfl, rfl, hd9, ks9.keyed, hq.kr, ?_, ?_⟩
        · rw [List.length_map]
          exact small1000 (by omega)
        · rw [putN_en]
          refine ⟨⟨_, _, _, rfl⟩, fun b o nb e => ?_, ?_, ?_, ?_, putO L q a (1 + r3), ⟨upd_same, ?_⟩, g.put (by omega) isP (by omega) vp (by omega) (by omega), ?_⟩
          · rw [upd_ne (ne_of_none e hd0)]
            exact (kd5.tr kd59) _ _ nb e
          · obtain ⟨a1, a2, a3, a4⟩ := dc8.on s9
            exact ⟨a1, a2, a3, by rw [upd_ne dp.symm]; exact a4⟩
          · rw [upd_ne ld]
            exact kd59 _ _ lp hl5
          · exact (es5.kd (DiceAt.ne dc5) kd59).kd nt Kd.put
          · exact (ks9.put hq).kd nt Kd.put
          · have := putO_len L q a (1 + r3)
            omega
    · rintro σ H5 ⟨⟨u, v, x, rfl⟩, kd5, dc5, hl5, es5, L, pa, g, len⟩
      exact ⟨_, rfl, k _ d L kd5 hd0 dc5 pa g⟩
end
end K0

/-! ## F19 -/
set_option maxRecDepth 100000
set_option maxHeartbeats 2000000
namespace K0
open PySem L2 NS ND RZ
/-! ### products as data -/
def dT (t : Tri) : PyData := .tuple [.str t.1, .tuple (t.2.1.map PyData.int), .int t.2.2]
def dP (p : Pr) : PyData := .tuple (p.map dT)
theorem TriA.dp {K : PySem.W.Frag} {H : Hp} {a : Addr} {t : Tri} (h : TriA H a t) : Dp K H (.ref a) (dT t) := by
  obtain ⟨b, h1, h2⟩ := h
  exact .tup (SqT.of h1) (.cons (.str _) (.cons (.tup (SqT.of h2) (dpAll_ints _)) (.cons (.int _) .nil)))
theorem dpAll_ts {K : PySem.W.Frag} {H : Hp} : ∀ {ts : List Addr} {p : Pr}, Paired (fun t u => TriA H t u) ts p → DpAll K H (ts.map V.ref) (p.map dT)
  | _, _, .nil => .nil
  | _, _, .cons h r => .cons h.dp (dpAll_ts r)
theorem ProA.dp {K : PySem.W.Frag} {H : Hp} {a : Addr} {p : Pr} (h : ProA H a p) : Dp K H (.ref a) (dP p) := by
  obtain ⟨ts, h1, h2⟩ := h
  exact .tup (SqT.of h1) (dpAll_ts h2)
theorem dT_lay {t : Tri} (h : nameS t.1 = true) : (dT t).canLay0 = true := by
  unfold dT
  simp only [PyData.canLay0, PyData.canLayAll0, nam_ok h, lay_ints, Bool.and_true]
theorem dT_depth (t : Tri) : (dT t).depth = 2 := by
  unfold dT
  simp [PyData.depth, PyData.depthAll, depth_ints]
theorem lay_ts : ∀ {p : Pr}, (∀ t ∈ p, nameS t.1 = true) → PyData.canLayAll0 (p.map dT) = true
  | [], _ => rfl
  | t :: p, h => by
    rw [List.map_cons, PyData.canLayAll0, dT_lay (h t List.mem_cons_self), lay_ts fun x hx => h x (List.mem_cons_of_mem _ hx)]
    rfl
theorem depth_ts : ∀ p : Pr, PyData.depthAll (p.map dT) ≤ 2
  | [] => by simp [PyData.depthAll]
  | t :: p => by
    have h1 := depth_ts p
    have h2 := dT_depth t
    simp only [List.map_cons, PyData.depthAll]
    omega
theorem dP_lay {p : Pr} (h : ∀ t ∈ p, nameS t.1 = true) : (dP p).canLay0 = true := by
  unfold dP
  simp only [PyData.canLay0]
  exact lay_ts h
theorem dP_depth (p : Pr) : (dP p).depth ≤ 3 := by
  have h1 := depth_ts p
  unfold dP
  simp only [PyData.depth]
  omega
theorem shaped_of {d : PyData} (h1 : d.canLay0 = true) (h2 : d.depth ≤ 64) : SeqAt.shaped d = true := by
  show (d.canLay0 && decide (d.depth ≤ 64)) = true
  rw [h1, decide_eq_true h2]
  rfl
theorem dP_shaped {p : Pr} (h : ∀ t ∈ p, nameS t.1 = true) : SeqAt.shaped (dP p) = true := shaped_of (dP_lay h) (Nat.le_trans (dP_depth p) (by decide))
theorem dP_none (p : Pr) : PyData.eqv (dP p) (.tuple []) = decide (p = []) := by
  cases p with
  | nil => rfl
  | cons t p => rfl
theorem tup0_shaped : SeqAt.shaped (.tuple []) = true := by decide +kernel
/-! ### _law_text_of -/
theorem hat_eq : (")" : Str) ++ ("^" : Str) = (")^" : Str) := by decide +kernel
theorem l_hat1 : ("^" : Str).length = 1 := by decide +kernel
/-- the law's text of a triple is the program's -/
theorem law_triS {t : Tri} (h : 1 ≤ t.2.2) : bodyS t ++ (if 1 < t.2.2 then ("^" : Str) ++ dcS t.2.2 else "") = triS t := by
  unfold triS
  by_cases c : t.2.2 = 1
  · rw [if_neg (by omega), if_pos c]
    exact Str.append_empty _
  · rw [if_pos (by omega), if_neg c]
    show (headS t ++ (")" : Str)) ++ (("^" : Str) ++ dcS t.2.2) = _
    rw [← Str.append_assoc, Str.append_assoc (headS t), hat_eq]
theorem more_read {i : Int} {x0 x1 x2 x3 x4 x6 x7 : Option V} {H : Hp} {Q : VK} (hi : i.natAbs < 10 ^ 60) (h : Q (.str (if 1 < i then ("^" : Str) ++ dcS i else "")) H) :
    tIf (tTest (tOp (rI0 fun i j => V.bl (decide (j < i))) (tVar 5) (tC (V.int 1))))
      (tOp (fun x y H Q => ∃ i j, x = V.str i ∧ y = V.str j ∧ i.length + j.length ≤ sizeLine ∧ Q (V.str (i ++ j)) H) (tC (V.str "^"))
        (tCB (fun xs H Q => ∃ i, xs = [V.int i] ∧ i.natAbs.log2 < 1920 ∧ Q (V.str (Str.ofString (toString i))) H) (tCons (tVar 5) tNil)))
      (tC (V.str "")) [x0, x1, x2, x3, x4, some (.int i), x6, x7] H Q := by
  refine ⟨_, rfl, _, _, rfl, rfl, _, rfl, ?_⟩
  by_cases c : 1 < i
  · rw [if_pos c] at h
    refine if_pos_of (decide_eq_true c) ⟨_, rfl, _, rfl, lt_log hi, _, _, rfl, rfl, ?_, h⟩
    have z := dcS_len hi
    show ("^" : Str).length + (dcS i).length ≤ sizeLine
    rw [l_hat1, sizeLine_eq]
    omega
  · rw [if_neg c] at h
    exact if_neg_of (decide_eq_false c) h
def preS (p : Pr) (n : Int) : List Str := if p ≠ [] ∧ n = 1 then [] else [dcS n]
theorem proS_pre (p : Pr) (n : Int) : proS p n = Txt.join spc (preS p n ++ p.map triS) := by
  unfold proS preS
  split <;> rfl
theorem first_read {K : PySem.W.Frag} {a : Addr} {p : Pr} {n : Int} {H : Hp} {Q : VK} {r : List (Option V)} (hp : ProA H a p) (nam : ∀ t ∈ p, nameS t.1 = true) (hn : n.natAbs < 10 ^ 60) (h : ∀ q H1, Same H H1 → H1 q = some (.lst ((preS p n).map V.str)) → Q (.ref q) H1) :
    tIf (tAnd (tTest (tOp rEq (tVar 1) (tC (V.int 1)))) (tTest (tOp (rNeD K) (tVar 0) (tTup tNil)))) (tLst tNil)
      (tLst (tCons (tCB (fun xs H Q => ∃ i, xs = [V.int i] ∧ i.natAbs.log2 < 1920 ∧ Q (V.str (Str.ofString (toString i))) H) (tCons (tVar 1) tNil)) tNil)) (some (.ref a) :: some (.int n) :: r) H Q := by
  have fin : ¬ (p ≠ [] ∧ n = 1) → ∀ H1, Same H H1 → tLst (tCons (tCB (fun xs H Q => ∃ i, xs = [V.int i] ∧ i.natAbs.log2 < 1920 ∧ Q (V.str (Str.ofString (toString i))) H) (tCons (tVar 1) tNil)) tNil) (some (.ref a) :: some (.int n) :: r) H1 Q := fun c H1 s1 => by
    refine ⟨_, rfl, _, rfl, lt_log hn, by show 1 ≤ sizeLine; rw [sizeLine_eq]; decide, fun q hq => h q _ (Same.tr s1 (Same.new _ hq)) ?_⟩
    unfold preS
    rw [if_neg c, upd_same]
    rfl
  refine ⟨_, rfl, rfl, _, rfl, ?_⟩
  rw [dec_int]
  by_cases c1 : n = 1
  · refine if_pos_of (by rw [c1]; rfl) ⟨_, rfl, Nat.zero_le _, fun t ht => ?_⟩
    have st : Same H (upd H t (.tup [])) := Same.new _ ht
    refine ⟨dP p, .tuple [], (hp.same st).dp, .tup (SqT.of upd_same) .nil, dP_shaped nam, tup0_shaped, _, rfl, ?_⟩
    rw [dP_none]
    by_cases e0 : p = []
    · exact if_neg_of (by rw [decide_eq_true e0]; decide) (fin (fun z => z.1 e0) _ st)
    · refine if_pos_of (by rw [decide_eq_false e0]; rfl) ⟨Nat.zero_le _, fun q hq => h q _ (Same.tr st (Same.new _ hq)) ?_⟩
      unfold preS
      rw [if_pos ⟨e0, c1⟩, upd_same]
      rfl
  · refine if_neg_of (by simp [c1]) ?_
    exact if_neg_of (by decide) (fin (fun z => c1 z.2) _ (Same.rfl' (H := H)))
abbrev sTextOf : Stmt := top 36
section
variable {P : Program} {w : World} {K : PySem.W.Frag} {mg : Str → Option Value} {base : Heap}
abbrev nTextOf : List Str := ["_law_product_here", "_law_number", "_law_some", "_law_table", "_law_row", "_law_times", "_law_more", "_law_value"]
theorem scTextOf : FnScope nTextOf ["_law_product_here", "_law_number"] (defScope sTextOf) := ⟨rfl, rfl, rfl, by decide +kernel, rfl, by decide +kernel, by decide +kernel⟩
theorem ok_textOf {f : Addr} {fd : FuncData} (F : Fun K "_law_text_of" "_law_text_of" sTextOf f fd) (B : TS K mg) : FnOk P w K mg base CX0 1 f fd ["_law_product_here", "_law_number"] spToldP := by
  refine F.ok scTextOf (fun vs H Q E h => ?_) (fun cdv A outer s H vs Q E hr h => ?_)
  · obtain ⟨a, p, n, rfl, _⟩ := h
    rfl
  · obtain ⟨a, p, n, rfl, hp, wf, few, hn, k⟩ := h
    obtain ⟨ts, h1, h2⟩ := id hp
    have lt : ts.length = p.length := Paired.length h2
    refine ⟨_, pss_cons (ps_set (i := 2) scTextOf.nd rfl (Or.inl rfl) (pe_ifExp (PW.pt (pw_and (pt_cmpR op_eq (pv 1) pe_int (nomark _)) (pw_and1 (pt_cmpR (op_neD hr.units) (pv 0) (pe_tup pa_nil) (nomark _))))) (pe_lst pa_nil) (pe_lst (pa_cons (pe_callTy (T := "str") call_str_int (by rfl) B.str (by decide +kernel) (pa_cons (pv 1) pa_nil)) pa_nil))))
      (pss_cons (ps_for PassesOwn.never rfl (pi_tup (pv 0)) (pg_tup rfl (pgs_cons (pg_name (i := 3) scTextOf.nd rfl (Or.inl rfl)) (pgs_cons (pg_name (i := 4) scTextOf.nd rfl (Or.inl rfl)) (pgs_cons (pg_name (i := 5) scTextOf.nd rfl (Or.inl rfl)) pgs_nil))))
        (pss_cons (ps_set (i := 6) scTextOf.nd rfl (Or.inl rfl) (pe_ifExp (pt_cmpR op_gt (pv 5) pe_int (nomark _)) (pe_op op_add_str pe_str (pe_callTy (T := "str") call_str_int (by rfl) B.str (by decide +kernel) (pa_cons (pv 5) pa_nil))) pe_str))
        (pss_one (ps_set (i := 2) scTextOf.nd rfl (Or.inl rfl) (pe_op op_cat (pv 2) (pe_lst (pa_cons (pe_op op_add_str (pe_op op_add_str (pe_op op_add_str (pe_op op_add_str (pv 3) pe_str)
            (pe_join pe_str (pe_lc (own := [("_law_value", 7)]) (g := gName 7) (tt := tYes) rfl scTextOf.nd (pi_tup (pv 4)) (blkOk_by (own := [("_law_value", 7)]) (N := nTextOf) (sc := defScope sTextOf) (by decide +kernel)) (fun _ _ _ _ _ => pg_name (i := 7) scTextOf.nd rfl (Or.inl rfl)) (fun _ _ _ _ _ => pts_nil)
              (fun _ _ _ _ _ => pe_callTy (T := "str") call_str_int (by rfl) B.str (by decide +kernel) (pa_cons (pv 7) pa_nil))))) pe_str) (pv 6)) pa_nil)))))))
      (pss_one (ps_ret (pe_join pe_str (pv 2))))), ?_⟩
    have nam : ∀ t ∈ p, nameS t.1 = true := fun t ht => (wf t ht).nam
    dsimp only [tSeq, tAsg]
    refine first_read hp nam hn fun q H1 s1 hq => ?_
    have plen : (preS p n).length ≤ 1 := by unfold preS; split <;> first | exact Nat.zero_le _ | exact Nat.le_refl _
    refine ⟨_, rfl, a, rfl, ⟨_, SqT.of (s1 _ _ h1)⟩, for_tup (K := K) (a := a) (xs := ts.map V.ref) (fun i σ H' => (∃ q u3 u4 u5 u6 u7, σ = [some (.ref a), some (.int n), some (.ref q), u3, u4, u5, u6, u7] ∧ H' q = some (.lst ((preS p n ++ (p.take i).map triS).map V.str))) ∧ Same H H')
      ⟨⟨q, none, none, none, none, none, rfl, by rw [List.take_zero, List.map_nil, List.append_nil]; exact hq⟩, s1⟩ (fun i σ H' _ r => SqT.of (r.2 _ _ h1)) ?_ ?_⟩
    · rintro i x σ H2 hx ⟨⟨q2, u3, u4, u5, u6, u7, rfl, hq2⟩, s2⟩
      rw [List.getElem?_map] at hx
      obtain ⟨t, ht, rfl⟩ := Option.map_eq_some_iff.mp hx
      obtain ⟨u, hu, ta⟩ := paired_get h2 ht
      obtain ⟨b, g1, g2⟩ := ta.same s2
      have um := List.mem_of_getElem? hu
      have wu := wf u um
      have ilt : i < p.length := (List.getElem?_eq_some_iff.mp hu).1
      have tm := wu.time
      have l8 : u.2.1.length ≤ 8 := wu.few
      have nl := wu.sz
      have vl := valS_len wu
      have bl := bodyS_len wu
      have tl := triS_len wu
      refine ⟨t, _, rfl, SqT.of g1, rfl, _, _, rfl, _, _, rfl, _, _, rfl, rfl, more_read (by omega) ?_⟩
      have e1 := l_par1
      have e2 := l_par2
      refine ⟨_, rfl, _, rfl, _, _, rfl, rfl, by rw [e1, sizeLine_eq]; omega, ⟨_, rfl⟩, _, rfl, b, rfl, ⟨_, SqT.of g2⟩, fun D hD => lc_pure (f := fun i => .str (dcS (u.2.1.getD i 0))) (walk_tup (K := K) (a := b) (xs := u.2.1.map V.int)) ?_ hD (fun H1 s1 => SqT.of (s1 _ _ g2)) ?_ gName_mono ?_⟩
      · rw [List.length_map]
        exact small1000 (by omega)
      · rintro j x H3 H4 hj s3 ⟨rfl, hx⟩
        rw [List.getElem?_map] at hx
        obtain ⟨v, hv, rfl⟩ := Option.map_eq_some_iff.mp hx
        have vm := List.mem_of_getElem? hv
        have ev : u.2.1.getD j 0 = v := by simp [List.getD, hv]
        refine ⟨rfl, fun Q' hq => ⟨_, rfl, _, rfl, lt_log (wu.nums v vm), ?_⟩⟩
        have z := hq _ (Same.rfl' (H := H4))
        rw [ev] at z
        exact z
      · intro H3 s3 hD3
        rw [List.length_map] at hD3
        rw [strs_at u.2.1 fun i => V.str (dcS i)] at hD3
        have eD : u.2.1.map (fun i => V.str (dcS i)) = (u.2.1.map dcS).map V.str := by
          rw [List.map_map]
          rfl
        rw [eD] at hD3
        have ln : ∀ k ∈ u.2.1.map dcS, k.length ≤ 61 := fun k hk => by
          obtain ⟨i, hi, rfl⟩ := List.mem_map.mp hk
          exact dcS_len (wu.nums i hi)
        have ml : (if 1 < u.2.2 then ("^" : Str) ++ dcS u.2.2 else "").length ≤ 62 := by
          have z := dcS_len (i := u.2.2) (by omega)
          split
          · rw [Str.length_append, l_hat1]
            omega
          · decide +kernel
        refine ⟨_, D, _, rfl, rfl, .inl (SqL.of hD3), joinN_small (sep := spc) 61 1 (by rw [l_spc]; exact Nat.le_refl _) ln (by rw [List.length_map]; omega), _, _, rfl, rfl, ?_, _, _, rfl, rfl, ?_, _, rfl, _, _, rfl, rfl, ?_, by show 1 ≤ sizeLine; rw [sizeLine_eq]; decide, fun c hc => ?_⟩
        · show (u.1 ++ ("(" : Str)).length + (valS u.2.1).length ≤ _
          rw [Str.length_append, e1, sizeLine_eq]
          omega
        · show (headS u).length + (")" : Str).length ≤ _
          have := headS_len wu
          rw [e2, sizeLine_eq]
          omega
        · show (bodyS u).length + (if 1 < u.2.2 then ("^" : Str) ++ dcS u.2.2 else "").length ≤ _
          rw [sizeLine_eq]
          omega
        · have sc : Same H3 (upd H3 c (.lst [.str (bodyS u ++ (if 1 < u.2.2 then ("^" : Str) ++ dcS u.2.2 else ""))])) := Same.new _ hc
          refine ⟨q2, c, _, _, rfl, rfl, sc _ _ (s3 _ _ hq2), upd_same, ?_, fun e he => ?_⟩
          · simp only [List.length_map, List.length_append, List.length_take, List.length_cons, List.length_nil]
            rw [sizeLine_eq]
            omega
          · have tk : p.take (i + 1) = p.take i ++ [u] := by rw [List.take_add_one, hu]; rfl
            refine ⟨⟨e, _, _, _, _, _, rfl, ?_⟩, Same.tr s2 (Same.tr s3 (Same.tr sc (Same.new _ he)))⟩
            rw [upd_same, tk, List.map_append (f := triS), ← List.append_assoc, List.map_append (f := V.str)]
            have z := law_triS tm.1
            show some (HO.lst (_ ++ [V.str (bodyS u ++ (if 1 < u.2.2 then ("^" : Str) ++ dcS u.2.2 else ""))])) = _
            rw [z]
            simp only [List.map_append, List.map_cons, List.map_nil]
    · rintro σ H2 ⟨⟨q2, u3, u4, u5, u6, u7, rfl, hq2⟩, s2⟩
      rw [List.length_map, lt, List.take_length] at hq2
      have z := k _ s2
      rw [proS_pre] at z
      refine ⟨⟨_, rfl⟩, _, rfl, _, q2, _, rfl, rfl, .inl (SqL.of hq2), joinN_small (sep := spc) 568 1 (by rw [l_spc]; exact Nat.le_refl _) (fun x hx => ?_) ?_, z⟩
      · rcases List.mem_append.mp hx with hx | hx
        · have : x = dcS n := by
            unfold preS at hx
            split at hx
            · cases hx
            · exact List.mem_singleton.mp hx
          rw [this]
          exact Nat.le_trans (dcS_len hn) (by decide)
        · obtain ⟨t, ht, rfl⟩ := List.mem_map.mp hx
          exact triS_len (wf t ht)
      · rw [List.length_append, List.length_map]
        omega
end
end K0

/-! ## F20 -/
set_option maxRecDepth 100000
set_option maxHeartbeats 2000000
namespace K0
open PySem L2 NS ND RZ
/-! ### the texts' characters -/
theorem okS_str (s : String) : okS (Str.ofString s) := fun c h => by
  rw [Str.ofString_eq_toList] at h
  have h' : c ∈ s.toList.map Char.toNat := by simpa using h
  obtain ⟨x, _, rfl⟩ := List.mem_map.mp h'
  have v := x.valid
  have e : x.toNat = x.val.toNat := rfl
  rcases v with v | ⟨_, v⟩
  · have : x.val.toNat < 0xd800 := v
    omega
  · have : x.val.toNat < 0x110000 := v
    omega
theorem okS_joinS {y : Str} (hy : okS y) : ∀ {ys : List Str}, (∀ z ∈ ys, okS z) → okS (Str.join y ys)
  | [], _ => fun c h => by cases h
  | [x], h => h x List.mem_cons_self
  | x :: z :: r, h => okS_app (okS_app (h x List.mem_cons_self) hy) (okS_joinS hy (ys := z :: r) fun u hu => h u (List.mem_cons_of_mem _ hu))
theorem okS_dc (i : Int) : okS (dcS i) := okS_str _
theorem okS_nam {z : Str} (h : nameS z = true) : okS z := fun c hc => by
  have q := nam_ok h
  unfold PyData.strOk at q
  rw [← Array.all_toList, List.all_eq_true] at q
  have := of_decide_eq_true (q c hc)
  omega
theorem ok_of {z : Str} (h : okS z) : PyData.strOk z = true := by
  unfold PyData.strOk
  rw [← Array.all_toList, List.all_eq_true]
  intro c hc
  have := h c hc
  exact decide_eq_true (by omega)
theorem okS_val (r : List Int) : okS (valS r) := by
  unfold valS
  rw [TL.join_eq]
  refine okS_joinS (okS_str _) fun z hz => ?_
  obtain ⟨i, _, rfl⟩ := List.mem_map.mp hz
  exact okS_dc i
theorem okS_tri {t : Tri} (h : nameS t.1 = true) : okS (triS t) := by
  unfold triS bodyS headS
  split
  · exact okS_app (okS_app (okS_app (okS_nam h) (okS_str _)) (okS_val _)) (okS_str _)
  · exact okS_app (okS_app (okS_app (okS_app (okS_nam h) (okS_str _)) (okS_val _)) (okS_str _)) (okS_dc _)
theorem okS_pro {p : Pr} {n : Int} (h : ∀ t ∈ p, nameS t.1 = true) : okS (proS p n) := by
  have a : ∀ z ∈ p.map triS, okS z := fun z hz => by
    obtain ⟨t, ht, rfl⟩ := List.mem_map.mp hz
    exact okS_tri (h t ht)
  unfold proS
  rw [TL.join_eq]
  refine okS_joinS (okS_str _) fun z hz => ?_
  split at hz
  · exact a z hz
  · rcases List.mem_cons.mp hz with e | e
    · rw [e]
      exact okS_dc n
    · exact a z e
theorem dpAll_strs {K : PySem.W.Frag} {H : Hp} : ∀ l : List Str, DpAll K H (l.map V.str) (l.map PyData.str)
  | [] => .nil
  | _ :: l => .cons (.str _) (dpAll_strs l)
theorem lay_strs : ∀ {l : List Str}, (∀ z ∈ l, okS z) → PyData.canLayAll0 (l.map PyData.str) = true
  | [], _ => rfl
  | z :: l, h => by
    rw [List.map_cons, PyData.canLayAll0, lay_strs fun x hx => h x (List.mem_cons_of_mem _ hx), Bool.and_true]
    show PyData.canLay0 (.str z) = true
    simp only [PyData.canLay0]
    exact ok_of (h z List.mem_cons_self)
theorem depth_strs : ∀ l : List Str, PyData.depthAll (l.map PyData.str) = 0
  | [] => rfl
  | _ :: l => by
    rw [List.map_cons, PyData.depthAll, depth_strs l]
    rfl
theorem strs_shaped {l : List Str} (h : ∀ z ∈ l, okS z) : SeqAt.shaped (.list (l.map PyData.str)) = true :=
  shaped_of (by simp only [PyData.canLay0]; exact lay_strs h) (by simp only [PyData.depth, depth_strs]; decide)
theorem lst0_shaped : SeqAt.shaped (.list []) = true := by decide +kernel
theorem lst_none (l : List PyData) : PyData.eqv (.list l) (.list []) = decide (l = []) := by
  cases l with
  | nil => rfl
  | cons t p => rfl
/-! ### _law_text -/
abbrev sText : Stmt := top 37
def spText (P : Program) (w : World) : Sp := fun vs H Q _ => ∃ (d : Addr) (L : Po), vs = [.ref d] ∧ PoA P w H d L ∧ WfL L ∧ L.length ≤ 8 ∧ (∀ e ∈ L, e.1.length ≤ 8) ∧ ∀ H' S, Same H H' → S.Perm L → SrtP S → Q (.str (poS S)) H'
section
variable {P : Program} {w : World} {K : PySem.W.Frag} {mg : Str → Option Value} {base : Heap} {fT : Addr} {fdT : FuncData}
abbrev nText : List Str := ["_law_parts", "_law_words", "_law_product_here"]
theorem scText : FnScope nText ["_law_parts"] (defScope sText) := ⟨rfl, rfl, rfl, by decide +kernel, rfl, by decide +kernel, by decide +kernel⟩
theorem ok_text {f : Addr} {fd : FuncData} (F : Fun K "_law_text" "_law_text" sText f fd) (B : TS K mg) (eT : Glo K mg "_law_text_of" fT) (GT : FnOk P w K mg base CX0 1 fT fdT ["_law_product_here", "_law_number"] spToldP) (bT : Binds K fdT ["_law_product_here", "_law_number"] []) : FnOk P w K mg base CX0 2 f fd ["_law_parts"] (spText P w) := by
  refine F.ok scText (fun vs H Q E h => ?_) (fun cdv A outer s H vs Q E hr h => ?_)
  · obtain ⟨d, L, rfl, _⟩ := h
    rfl
  · obtain ⟨d, L, rfl, hd, wf, few, fewP, k⟩ := h
    refine ⟨_, pss_cons (ps_setLc (i := 1) (own := [("_law_product_here", 2)]) (g := gName 2) (tt := tYes) (by rfl) scText.nd rfl rfl (sw_true rfl rfl rfl (by decide +kernel)) (pi_list (pe_callB (cr_nsort rfl hr.units) (by rfl) B.srt (by decide +kernel) (pa_cons (pv 0) pa_nil)))
          (blkOk_by (own := [("_law_product_here", 2)]) (N := nText) (sc := defScope sText) (by decide +kernel)) (fun _ _ _ _ _ => pg_name (i := 2) scText.nd rfl (Or.inl rfl)) (fun _ _ _ _ _ => pts_nil)
          (fun _ _ _ _ _ => pe_call (E := E0) GT hr (by rfl) eT.g eT.k bT .nil pass0 (pa_cons (pv 2) (pa_cons (pe_ngetB P w K (u9 hr) (pv 0) (pv 2) (fun _ _ => rfl)) pa_nil))))
      (pss_one (ps_ret (pe_ifExp (pt_cmpR (op_neD hr.units) (pv 1) (pe_lst pa_nil) (nomark _)) (pe_join pe_str (pv 1)) pe_str))), ?_⟩
    refine ⟨_, rfl, d, _, 3, rfl, .inl hd.1, hd.2.keyed, lined_po L, fun M' l pm pw hl => ?_⟩
    obtain ⟨S, pS, rfl, srt⟩ := srt_of wf pm pw
    have wS := wf.perm pS
    have hrefs : (List.map (fun m : NS.Row => V.ref m.1) (List.map (fun e : Pr × Addr × Int => (e.2.1, kP e.1)) S)) = S.map fun e => V.ref e.2.1 := by rw [List.map_map]; rfl
    rw [hrefs]
    have sl : Same H (upd H l (.lst (S.map fun e => V.ref e.2.1))) := Same.new _ hl
    have lS : S.length = L.length := pS.length_eq
    refine ⟨l, rfl, ⟨_, SqL.of upd_same⟩, fun D hD => lc_pure (f := fun i => .str (proS (S.getD i ([], 0, 0)).1 (S.getD i ([], 0, 0)).2.2)) (walk_list (K := K) (a := l) (xs := S.map fun e => V.ref e.2.1)) ?_ hD (fun H1 s1 => SqL.of (s1 _ _ upd_same)) ?_ gName_mono ?_⟩
    · rw [List.length_map]
      exact small1000 (by omega)
    · rintro i x H3 H4 hi s3 ⟨rfl, hx⟩
      rw [List.getElem?_map] at hx
      obtain ⟨e, he, rfl⟩ := Option.map_eq_some_iff.mp hx
      have em := List.mem_of_getElem? he
      have eL := pS.mem_iff.mp em
      have ev : S.getD i ([], 0, 0) = e := by simp [List.getD, he]
      have s13 : Same H H4 := Same.tr sl s3
      have hd3 := hd.same s13
      have k3 : Ks H4 S := (hd.2.same s13).perm pS
      have vl : valN (L.map enP) (kP e.1) = some (.int e.2.2) := valN_mem wf.keys (e := enP e) (List.mem_map.mpr ⟨e, eL, rfl⟩)
      refine ⟨rfl, fun Q' hq => ⟨_, rfl, _, rfl, _, rfl, d, e.2.1, _, kP e.1, .int e.2.2, rfl, rfl, .inl hd3.1, hd3.2.keyed, (k3 e em).kr, vl, e.2.1, e.1, e.2.2, rfl, k3 e em, (wf.pro e eL).tri, fewP e eL, isI_lt (wf.num e eL).1, fun H5 s5 => ?_⟩⟩
      have z := hq _ s5
      rw [ev] at z
      exact z
    · intro H1 s1 hD1
      rw [List.length_map, pos_at S fun e => V.str (proS e.1 e.2.2)] at hD1
      have eD : S.map (fun e => V.str (proS e.1 e.2.2)) = (S.map fun e => proS e.1 e.2.2).map V.str := by
        rw [List.map_map]
        rfl
      rw [eD] at hD1
      have okW : ∀ z ∈ S.map (fun e => proS e.1 e.2.2), okS z := fun z hz => by
        obtain ⟨e, em, rfl⟩ := List.mem_map.mp hz
        exact okS_pro fun t ht => ((wS.pro e em).tri t ht).nam
      refine ⟨_, rfl, Nat.zero_le _, fun m hm => ?_⟩
      have sm : Same H1 (upd H1 m (.lst [])) := Same.new _ hm
      refine ⟨.list ((S.map fun e => proS e.1 e.2.2).map PyData.str), .list [], .lst (SqL.of (sm _ _ hD1)) (dpAll_strs _), .lst (SqL.of upd_same) .nil, strs_shaped okW, lst0_shaped, _, rfl, ?_⟩
      rw [lst_none]
      have fin := k _ S (Same.tr sl (Same.tr s1 sm)) pS srt
      unfold poS at fin
      by_cases e0 : S = []
      · rw [if_pos e0] at fin
        exact if_neg_of (by rw [e0]; decide) fin
      · rw [if_neg e0] at fin
        refine if_pos_of ?_ ⟨⟨_, rfl⟩, _, rfl, _, D, _, rfl, rfl, .inl (SqL.of (sm _ _ hD1)), joinN_small (sep := plusS) 5121 3 (by rw [l_plus]; exact Nat.le_refl _) (fun x hx => ?_) ?_, fin⟩
        · have : ¬ ((S.map fun e => proS e.1 e.2.2).map PyData.str = []) := by
            intro z
            rw [List.map_eq_nil_iff, List.map_eq_nil_iff] at z
            exact e0 z
          rw [decide_eq_false this]
          rfl
        · obtain ⟨e, em, rfl⟩ := List.mem_map.mp hx
          have eL := pS.mem_iff.mp em
          exact proS_len (wf.pro e eL).tri (fewP e eL) (isI_lt (wf.num e eL).1)
        · rw [List.length_map]
          omega
end
end K0

/-! ## F21 -/
set_option maxRecDepth 100000
set_option maxHeartbeats 2000000
namespace K0
open PySem L2 NS ND RZ
/-! ### what the law compares, as pure lists -/
theorem srt_one {α : Type} (lt : α → α → Prop) (irr : ∀ a, ¬ lt a a) (tr : ∀ a b c, lt a b → lt b c → lt a c) : ∀ {l m : List α}, l.Pairwise lt → m.Pairwise lt → (∀ e, e ∈ l ↔ e ∈ m) → l = m
  | [], [], _, _, _ => rfl
  | [], b :: m, _, _, h => absurd ((h b).mpr List.mem_cons_self) List.not_mem_nil
  | a :: l, [], _, _, h => absurd ((h a).mp List.mem_cons_self) List.not_mem_nil
  | a :: l, b :: m, hl, hm, h => by
    have hl' := List.pairwise_cons.mp hl
    have hm' := List.pairwise_cons.mp hm
    have e : a = b := by
      rcases List.mem_cons.mp ((h a).mp List.mem_cons_self) with z | z
      · exact z
      · rcases List.mem_cons.mp ((h b).mpr List.mem_cons_self) with y | y
        · exact y.symm
        · exact absurd (tr _ _ _ (hm'.1 a z) (hl'.1 b y)) (irr _)
    subst e
    have na : a ∉ l := fun z => irr _ (hl'.1 a z)
    have nb : a ∉ m := fun z => irr _ (hm'.1 a z)
    rw [srt_one lt irr tr hl'.2 hm'.2 fun e => ⟨fun z => ?_, fun z => ?_⟩]
    · rcases List.mem_cons.mp ((h e).mp (List.mem_cons_of_mem _ z)) with y | y
      · exact absurd (y ▸ z) na
      · exact y
    · rcases List.mem_cons.mp ((h e).mpr (List.mem_cons_of_mem _ z)) with y | y
      · exact absurd (y ▸ z) nb
      · exact y
/-- a product and its number -/
def strip (e : Pr × Addr × Int) : Pr × Int := (e.1, e.2.2)
theorem strip_fst {x y : Pr × Addr × Int} (h : strip y = strip x) : y.1 = x.1 := (Prod.mk.inj h).1
theorem cnt_one {l : List Ent} (nd : l.Nodup) {e : Ent} (h : e ∈ l) : l.count e = 1 := by
  have a := List.nodup_iff_count.mp nd e
  have b := List.count_pos_iff.mpr h
  omega
theorem srtP_strip {S : Po} (h : SrtP S) : (S.map strip).Pairwise fun x y => ltK (kP x.1) (kP y.1) = true := List.pairwise_map.mpr h
theorem strip_uniq {S T : Po} (hs : SrtP S) (ht : SrtP T) (p : (S.map strip).Perm (T.map strip)) : S.map strip = T.map strip :=
  srt_one (fun x y : Pr × Int => ltK (kP x.1) (kP y.1) = true) (fun a h => by rw [ltK_irr] at h; cases h) (fun _ _ _ h1 h2 => ltK_tr _ _ _ h1 h2) (srtP_strip hs) (srtP_strip ht) fun e => p.mem_iff
def poT (t : List (Pr × Int)) : Str := if t = [] then ("0" : Str) else Txt.join plusS (t.map fun e => proS e.1 e.2)
theorem poS_strip (S : Po) : poS S = poT (S.map strip) := by
  unfold poS poT
  by_cases c : S = []
  · rw [if_pos c, if_pos (by rw [c]; rfl)]
  · rw [if_neg c, if_neg fun z => c (List.map_eq_nil_iff.mp z), List.map_map]
    rfl
theorem nums_strip (S : Po) : numsP S = (S.map strip).map fun e => e.2 := by
  unfold numsP
  rw [List.map_map]
  rfl
theorem sum_perm {l m : List Int} (p : l.Perm m) : l.sum = m.sum := by
  induction p with
  | nil => rfl
  | cons x _ ih => rw [List.sum_cons, List.sum_cons, ih]
  | swap x y l =>
    rw [List.sum_cons, List.sum_cons, List.sum_cons, List.sum_cons]
    omega
  | trans _ _ h1 h2 => exact h1.trans h2
theorem sumsP {S T : Po} (p : (S.map strip).Perm (T.map strip)) : (numsP S).sum = (numsP T).sum := by
  rw [nums_strip, nums_strip]
  exact sum_perm (p.map _)
/-! ### entries of products -/
theorem ascB_pw : ∀ (es : List Ent), ascB (es.map kE) = true → AscE es
  | [], _ => .nil
  | [a], _ => List.pairwise_singleton _ _
  | a :: b :: r, h => by
    have h' : (ltK (kE a) (kE b) && ascB ((b :: r).map kE)) = true := h
    rw [Bool.and_eq_true] at h'
    have z := ascB_pw (b :: r) h'.2
    refine List.pairwise_cons.mpr ⟨fun x hx => ?_, z⟩
    rcases List.mem_cons.mp hx with e | e
    · rw [e]
      exact h'.1
    · exact ltE_tr (show ltE a b = true from h'.1) ((List.pairwise_cons.mp z).1 x e)
theorem WfP.ascE {p : Pr} (w : WfP p) : AscE (entsP p) := by
  refine ascB_pw _ ?_
  unfold entsP
  rw [List.map_map]
  exact w.asc
/-- an entry of a product of which times tell -/
theorem times_pos {p : Pr} (w : WfP p) (e : Ent) : (0 < timesOf p e) ↔ e ∈ entsP p := by
  have pos : ∀ q : Pr, (∀ t ∈ q, 1 ≤ t.2.2) → 0 ≤ timesOf q e ∧ (0 < timesOf q e ↔ e ∈ entsP q) := by
    intro q
    induction q with
    | nil => exact fun _ => ⟨Int.le_refl _, ⟨fun h => absurd h (Int.lt_irrefl 0), nofun⟩⟩
    | cons t q ih =>
      intro h
      have i := ih fun u hu => h u (List.mem_cons_of_mem _ hu)
      have t1 := h t List.mem_cons_self
      have e0 : timesOf (t :: q) e = (if entT t = e then t.2.2 else 0) + timesOf q e := by
        unfold timesOf
        rw [List.filter_cons]
        by_cases c : entT t = e
        · rw [if_pos (decide_eq_true c), if_pos c, List.map_cons, List.sum_cons]
        · rw [if_neg (by simp [c]), if_neg c, Int.zero_add]
      have e1 : entsP (t :: q) = entT t :: entsP q := rfl
      rw [e0, e1, List.mem_cons]
      by_cases c : entT t = e
      · rw [if_pos c]
        exact ⟨by omega, fun _ => .inl c.symm, fun _ => by omega⟩
      · rw [if_neg c, Int.zero_add]
        exact ⟨i.1, fun h => .inr (i.2.mp h), fun h => i.2.mpr (h.resolve_left fun z => c z.symm)⟩
  exact (pos p fun t ht => (w.tri t ht).time.1).2
theorem inAll_iff {S : Po} (w : ∀ x ∈ S, WfP x.1) (e : Ent) : inAll S e = true ↔ ∀ x ∈ S, e ∈ entsP x.1 := by
  unfold inAll
  rw [List.all_eq_true]
  exact ⟨fun h x hx => (times_pos (w x hx) e).mp (of_decide_eq_true (h x hx)), fun h x hx => decide_eq_true ((times_pos (w x hx) e).mpr (h x hx))⟩
theorem count_ents {L : Po} (w : ∀ x ∈ L, WfP x.1) (e : Ent) : (entsOf L).count e ≤ L.length ∧ ((entsOf L).count e = L.length ↔ ∀ x ∈ L, e ∈ entsP x.1) := by
  induction L with
  | nil => exact ⟨Nat.le_refl _, ⟨fun _ => nofun, fun _ => rfl⟩⟩
  | cons x L ih =>
    have i := ih fun y hy => w y (List.mem_cons_of_mem _ hy)
    have e0 : entsOf (x :: L) = entsP x.1 ++ entsOf L := rfl
    have nd := (w x List.mem_cons_self).ascE.nodup
    rw [e0, List.count_append, List.length_cons, List.forall_mem_cons, ← i.2]
    by_cases c : e ∈ entsP x.1
    · rw [cnt_one nd c]
      exact ⟨by omega, fun h => ⟨c, by omega⟩, fun h => by omega⟩
    · rw [List.count_eq_zero.mpr c]
      exact ⟨by omega, fun h => by omega, fun h => absurd h.1 c⟩
/-- the law's needed ones -/
theorem needed_uniq {S L : Po} (wS : ∀ x ∈ S, WfP x.1) (wL : ∀ x ∈ L, WfP x.1) (p : (S.map strip).Perm (L.map strip)) {es : List Ent} (asc : AscE es) (mem : ∀ e, e ∈ es ↔ e ∈ entsOf L) :
    es.filter (fun e => decide ((entsOf L).count e = L.length)) = neededOf S := by
  have prs : ∀ q : Pr, (∃ x ∈ S, x.1 = q) ↔ ∃ x ∈ L, x.1 = q := fun q => by
    constructor
    · rintro ⟨x, hx, rfl⟩
      obtain ⟨y, hy, e⟩ := List.mem_map.mp (p.mem_iff.mp (List.mem_map.mpr ⟨x, hx, rfl⟩))
      exact ⟨y, hy, strip_fst e⟩
    · rintro ⟨x, hx, rfl⟩
      obtain ⟨y, hy, e⟩ := List.mem_map.mp (p.mem_iff.mpr (List.mem_map.mpr ⟨x, hx, rfl⟩))
      exact ⟨y, hy, strip_fst e⟩
  have all : ∀ e, (∀ x ∈ L, e ∈ entsP x.1) ↔ ∀ x ∈ S, e ∈ entsP x.1 := fun e => by
    constructor
    · intro h x hx
      obtain ⟨y, hy, q⟩ := (prs x.1).mp ⟨x, hx, rfl⟩
      rw [← q]
      exact h y hy
    · intro h x hx
      obtain ⟨y, hy, q⟩ := (prs x.1).mpr ⟨x, hx, rfl⟩
      rw [← q]
      exact h y hy
  have nAsc : AscE (neededOf S) := by
    cases S with
    | nil => exact .nil
    | cons x S => exact (wS x List.mem_cons_self).ascE.filter _
  refine asc_uniq (asc.filter _) nAsc fun e => ?_
  rw [List.mem_filter, decide_eq_true_iff, (count_ents wL e).2, all e, mem e]
  cases S with
  | nil =>
    have lz := p.length_eq
    rw [List.length_map, List.length_map] at lz
    have : L = [] := List.length_eq_zero_iff.mp lz.symm
    rw [this]
    exact ⟨fun h => h.1, fun h => absurd h List.not_mem_nil⟩
  | cons x S =>
    show _ ↔ e ∈ (entsP x.1).filter (inAll (x :: S))
    rw [List.mem_filter, inAll_iff wS]
    refine ⟨fun h => ⟨h.2 x List.mem_cons_self, h.2⟩, fun h => ⟨?_, h.2⟩⟩
    obtain ⟨y, hy, q⟩ := (prs x.1).mp ⟨x, List.mem_cons_self, rfl⟩
    exact List.mem_flatten.mpr ⟨entsP y.1, List.mem_map.mpr ⟨y, hy, rfl⟩, by rw [q]; exact h.1⟩
/-- the unknowns of both -/
theorem ents_strip {S L : Po} (p : (S.map strip).Perm (L.map strip)) (e : Ent) : e ∈ entsOf S ↔ e ∈ entsOf L := by
  have half : ∀ {S L : Po}, (S.map strip).Perm (L.map strip) → e ∈ entsOf S → e ∈ entsOf L := fun {S L} p h => by
    obtain ⟨l, hl, he⟩ := List.mem_flatten.mp h
    obtain ⟨x, hx, rfl⟩ := List.mem_map.mp hl
    obtain ⟨y, hy, q⟩ := List.mem_map.mp (p.mem_iff.mp (List.mem_map.mpr ⟨x, hx, rfl⟩))
    have q1 : y.1 = x.1 := strip_fst q
    exact List.mem_flatten.mpr ⟨entsP y.1, List.mem_map.mpr ⟨y, hy, rfl⟩, by rw [q1]; exact he⟩
  exact ⟨half p, half p.symm⟩
theorem has_strip {S L : Po} (p : (S.map strip).Perm (L.map strip)) (q : Pr) : hasP S q = hasP L q := by
  have half : ∀ {S L : Po}, (S.map strip).Perm (L.map strip) → hasP S q = true → hasP L q = true := fun {S L} p h => by
    obtain ⟨x, hx, e⟩ := List.any_eq_true.mp h
    obtain ⟨y, hy, z⟩ := List.mem_map.mp (p.mem_iff.mp (List.mem_map.mpr ⟨x, hx, rfl⟩))
    have q1 : y.1 = x.1 := strip_fst z
    exact List.any_eq_true.mpr ⟨y, hy, decide_eq_true (q1.trans (of_decide_eq_true e))⟩
  exact Bool.eq_iff_iff.mpr ⟨half p, half p.symm⟩
end K0

/-! ## F22 -/
set_option maxRecDepth 100000
set_option maxHeartbeats 2000000
namespace K0
open PySem L2 NS ND RZ
/-! ### what the law asks of the class -/
def eN : XK := fun _ _ _ => False
structure Getter (P : Program) (w : World) (K : PySem.W.Frag) (mg : Str → Option Value) (base : Heap) (C : Addr) (n : Nat) (f : Str) (sp : Sp) : Prop where
  ex : ∃ p g fd, PropOf K C f p g ∧ FnOk P w K mg base CX0 n g fd ["self"] sp ∧ Binds K fd ["self"] []
structure Slot1 (P : Program) (w : World) (K : PySem.W.Frag) (mg : Str → Option Value) (base : Heap) (C : Addr) (n : Nat) (m : Str) (sp : Sp) : Prop where
  ex : ∃ g, PySem.W.findIn K (.ref C) m = some (some (.ref g)) ∧ PySem.W.isFn K (.ref g) = true ∧ FnR P w K mg base CX0 n g sp
structure QW (P : Program) (w : World) (K : PySem.W.Frag) (mg : Str → Option Value) (base : Heap) (C : Addr) : Prop where
  T : TWh K C
  I : TIs K C
  par : Getter P w K mg base C 1 "parts" (spParts P w C)
  unk : Getter P w K mg base C 1 "unknowns" (spUnk P w C)
  way : Getter P w K mg base C 1 "ways" (spWays P w C)
  need : Getter P w K mg base C 2 "needed" (spNeed P w C)
  con : Slot1 P w K mg base C 7 "__contains__" (spCont P w K C)
  len : Slot1 P w K mg base C 1 "__len__" (spLenD P w K C "_parts")
  str : Slot1 P w K mg base C 3 "__str__" (spWStr P w C)
  eq : Slot1 P w K mg base C 1 "__eq__" (spWEq P w K C)
  itr : ∃ g, PySem.W.findIn K (.ref C) "__iter__" = some (some (.ref g)) ∧ PySem.W.isFn K (.ref g) = true ∧ FnS P w K mg base CX0 1 g (spIterD P w C "_parts")
section
variable {X : Cx} {C : Addr} {e : Expr} {ta : TE} {pos : Pos} {n : Nat} {f : Str} {sp : Sp}
theorem pe_gtr (Z : Getter X.prog X.w X.K X.mg X.base C n f sp) (c : L2.Cls X.K C) (hr : Room (n + 1) X.A) (he : PE X e ta) (hab : attributeBase e f X.env (eval e X.env) = eval e X.env := by rfl) : PE X (.Attribute e f pos) (tProp C sp [] eN ta) := by
  obtain ⟨p, g, fd, hp, F, b⟩ := Z.ex
  exact pe_prop he c hp F hr b .nil pass0 hab
theorem cr_len1 (Z : Slot1 X.prog X.w X.K X.mg X.base C n "__len__" sp) (hr : Room (n + 1) X.A) : CallR X (.builtin "len") (rLenOwn C sp eN) := by
  obtain ⟨g, h1, h2, F⟩ := Z.ex
  exact call_lenOwn h1 h2 F hr pass0
theorem cr_str1 (Z : Slot1 X.prog X.w X.K X.mg X.base C n "__str__" sp) (hr : Room (n + 2) X.A) : CallR X (.type "str") (rStrOwn C sp eN) := by
  obtain ⟨g, h1, h2, F⟩ := Z.ex
  exact call_strOwn h1 h2 F hr pass0
theorem op_in1 (Z : Slot1 X.prog X.w X.K X.mg X.base C n "__contains__" sp) (hr : Room n X.A) : OpR X (compareOp .In) (rInOwn C sp eN) := by
  obtain ⟨g, h1, h2, F⟩ := Z.ex
  exact op_inOwn h1 h2 F hr pass0
theorem op_nin1 (Z : Slot1 X.prog X.w X.K X.mg X.base C n "__contains__" sp) (hr : Room n X.A) : OpR X (compareOp .NotIn) (fun x y H Q => rInOwn C sp eN x y H fun v H' => ∃ c, v = .bl c ∧ Q (.bl (!c)) H') := by
  obtain ⟨g, h1, h2, F⟩ := Z.ex
  exact op_notInOwn h1 h2 F hr pass0
theorem cr_list1 {X : Cx} {C : Addr} (Z : QW X.prog X.w X.K X.mg X.base C) (hc : X.calm = true) (hr : Room 4 X.A) : CallR X (.type "list") (rListD X.prog X.w X.K C "_parts") := by
  obtain ⟨g, h1, h2, F⟩ := Z.itr
  obtain ⟨gl, l1, l2, L⟩ := Z.len.ex
  exact call_listD ⟨h1, h2, F⟩ ⟨l1, l2, L⟩ hc hr
end
/-! ### _law_told_right -/
abbrev sToldR : Stmt := top 38
section
variable {P : Program} {w : World} {K : PySem.W.Frag} {mg : Str → Option Value} {base : Heap} {C fT : Addr} {fdT : FuncData}
abbrev nToldR : List Str := ["_law_whence", "_law_parts", "_law_pairs", "_law_product_here", "_law_needed", "_law_odd", "_law_table", "_law_row", "_law_times", "_law_pair", "_law_value"]
theorem scToldR : FnScope nToldR ["_law_whence", "_law_parts"] (defScope sToldR) := ⟨rfl, rfl, rfl, by decide +kernel, rfl, by decide +kernel, by decide +kernel⟩
end
end K0

/-! ## F24 -/
set_option maxRecDepth 100000
set_option maxHeartbeats 2000000
namespace K0
open PySem L2 NS ND RZ
/-! ### a key as data -/
mutual
def dK : NestedKey → PyData
  | .none => .none
  | .num i => .int i
  | .text x => .str x
  | .tup ks => .tuple (dKs ks)
def dKs : List NestedKey → List PyData
  | [] => []
  | k :: ks => dK k :: dKs ks
end
mutual
theorem kv_dp {K : PySem.W.Frag} {H : Hp} : ∀ (k : NestedKey) (v : V), Kv K H v k → Dp K H v (dK k)
  | .none, _, x => by cases x; exact .non
  | .num _, _, x => by cases x; exact .int _
  | .text _, _, x => by cases x; exact .str _
  | .tup ks, _, x => by
    cases x with
    | tup h1 h2 => exact .tup h1 (kvs_dp ks _ h2)
theorem kvs_dp {K : PySem.W.Frag} {H : Hp} : ∀ (ks : List NestedKey) (vs : List V), KvAll K H vs ks → DpAll K H vs (dKs ks)
  | [], _, x => by cases x; exact .nil
  | k :: ks, _, x => by
    cases x with
    | cons h1 h2 => exact .cons (kv_dp k _ h1) (kvs_dp ks _ h2)
end
theorem dKs_map {α : Type} (f : α → NestedKey) (g : α → PyData) (h : ∀ a, dK (f a) = g a) : ∀ l : List α, dKs (l.map f) = l.map g
  | [] => rfl
  | a :: l => by
    show dK (f a) :: dKs (l.map f) = g a :: l.map g
    rw [h a, dKs_map f g h l]
theorem dK_row (r : List Int) : dK (kR r) = .tuple (r.map PyData.int) := by
  show PyData.tuple (dKs (r.map NestedKey.num)) = _
  rw [dKs_map NestedKey.num PyData.int (fun _ => rfl)]
theorem dK_tri (t : Tri) : dK (kT t) = dT t := by
  show PyData.tuple [.str t.1, dK (kR t.2.1), .int t.2.2] = _
  rw [dK_row]
  rfl
theorem dK_pro (p : Pr) : dK (kP p) = dP p := by
  show PyData.tuple (dKs (p.map kT)) = _
  rw [dKs_map kT dT dK_tri]
  rfl
/-- a product with its number -/
def kN (x : Pr × Int) : NestedKey := .tup [kP x.1, .num x.2]
def dN (x : Pr × Int) : PyData := .tuple [dP x.1, .int x.2]
theorem dK_num (x : Pr × Int) : dK (kN x) = dN x := by
  show PyData.tuple [dK (kP x.1), .int x.2] = _
  rw [dK_pro]
  rfl
def numV : V → Int
  | .int i => i
  | _ => 0
theorem numK_en (e : Pr × Addr × Int) : numK (fun e => numV e.2.2) (enP e) = kN (strip e) := rfl
theorem numKs (L : Po) : (L.map enP).map (numK fun e => numV e.2.2) = (L.map strip).map kN := by
  rw [List.map_map, List.map_map]
  rfl
theorem kN_lt {x y : Pr × Int} (h : ltK (kP x.1) (kP y.1) = true) : ltK (kN x) (kN y) = true := by
  show ltKs [kP x.1, .num x.2] [kP y.1, .num y.2] = true
  rw [ltKs]
  have nb : ¬ NestedKey.beq (kP x.1) (kP y.1) = true := fun z => by
    have e := NestedKey.eq_of_beq _ _ z
    rw [e, ltK_irr] at h
    cases h
  rw [if_neg nb]
  exact h
theorem kN_inj {x y : Pr × Int} (h : kN x = kN y) : x = y := by
  have h' := NestedKey.tup.inj h
  injection h' with h1 h2
  injection h2 with h3 _
  injection h3 with h4
  exact Prod.ext (kP_inj h1) h4
theorem strips_nodup {L : Po} (h : (L.map fun e => e.1).Nodup) : (L.map strip).Nodup := by
  have e : (L.map strip).map (fun x => x.1) = L.map fun e => e.1 := by rw [List.map_map]; rfl
  rw [← e] at h
  exact (List.pairwise_map.mp h).imp fun {a b} n z => n (by rw [z])
/-- the sorted pairs of any dict with these parts -/
theorem sorted_uniq {S L : Po} (wl : (L.map fun e => e.1).Nodup) (srt : SrtP S) (pm : (S.map strip).Perm (L.map strip)) {M' : List NS.Row} (p : (M'.map (·.2)).Perm ((L.map enP).map (numK fun e => numV e.2.2))) (pw : M'.Pairwise fun m m' => ltK m'.2 m.2 = false) :
    M'.map (·.2) = (S.map strip).map kN := by
  rw [numKs] at p
  have nd : ((L.map strip).map kN).Nodup := List.pairwise_map.mpr ((strips_nodup wl).imp fun {a b} n z => n (kN_inj z))
  have ndM : (M'.map (·.2)).Nodup := p.nodup_iff.mpr nd
  have pw' : (M'.map (·.2)).Pairwise fun a b => ltK b a = false := List.pairwise_map.mpr pw
  have st : (M'.map (·.2)).Pairwise fun a b => ltK a b = true := (pw'.and ndM).imp fun {a b} h => by
    rcases ltK_tot a b h.2 with z | z
    · exact z
    · have h1 : ltK b a = false := h.1
      rw [z] at h1
      cases h1
  have sS : ((S.map strip).map kN).Pairwise fun a b => ltK a b = true := List.pairwise_map.mpr ((srtP_strip srt).imp fun {a b} h => kN_lt h)
  refine srt_one (fun a b => ltK a b = true) (fun a h => by rw [ltK_irr] at h; cases h) (fun _ _ _ h1 h2 => ltK_tr _ _ _ h1 h2) st sS fun e => ?_
  exact (p.trans (pm.symm.map kN)).mem_iff
theorem rows_dp {K : PySem.W.Frag} {H : Hp} : ∀ {M : List NS.Row}, (∀ m ∈ M, Kr K H m) → DpAll K H (M.map fun m => V.ref m.1) (dKs (M.map (·.2)))
  | [], _ => .nil
  | m :: M, h => .cons (kv_dp _ _ (h m List.mem_cons_self).1) (rows_dp fun x hx => h x (List.mem_cons_of_mem _ hx))
/-- the pairs of the dict itself -/
theorem pairs_dp {K : PySem.W.Frag} {H : Hp} : ∀ {S : Po} {ts : List Addr}, Ks H S → Paired (fun (t : Addr) (e : V × V) => H t = some (.tup [e.1, e.2])) ts ((S.map enP).map pairN) → DpAll K H (ts.map V.ref) ((S.map strip).map dN)
  | [], _, _, .nil => .nil
  | e :: S, _, h, .cons a r => .cons (.tup (SqT.of a) (.cons (h e List.mem_cons_self).dp (.cons (.int _) .nil))) (pairs_dp (fun x hx => h x (List.mem_cons_of_mem _ hx)) r)
theorem dN_lay {x : Pr × Int} (h : ∀ t ∈ x.1, nameS t.1 = true) : (dN x).canLay0 = true := by
  unfold dN
  simp only [PyData.canLay0, PyData.canLayAll0, dP_lay h, Bool.and_true]
theorem dN_depth (x : Pr × Int) : (dN x).depth ≤ 4 := by
  have h1 := dP_depth x.1
  unfold dN
  simp only [PyData.depth, PyData.depthAll]
  omega
theorem lay_dNs : ∀ {l : List (Pr × Int)}, (∀ x ∈ l, ∀ t ∈ x.1, nameS t.1 = true) → PyData.canLayAll0 (l.map dN) = true
  | [], _ => rfl
  | x :: l, h => by
    rw [List.map_cons, PyData.canLayAll0, dN_lay (h x List.mem_cons_self), lay_dNs fun y hy => h y (List.mem_cons_of_mem _ hy)]
    rfl
theorem depth_dNs : ∀ l : List (Pr × Int), PyData.depthAll (l.map dN) ≤ 4
  | [] => by simp [PyData.depthAll]
  | x :: l => by
    have h1 := depth_dNs l
    have h2 := dN_depth x
    simp only [List.map_cons, PyData.depthAll]
    omega
theorem dNs_lay {l : List (Pr × Int)} (h : ∀ x ∈ l, ∀ t ∈ x.1, nameS t.1 = true) : PyData.canLay0 (.list (l.map dN)) = true := by
  simp only [PyData.canLay0]
  exact lay_dNs h
theorem dNs_shaped {l : List (Pr × Int)} (h : ∀ x ∈ l, ∀ t ∈ x.1, nameS t.1 = true) : SeqAt.shaped (.list (l.map dN)) = true :=
  shaped_of (dNs_lay h) (by have := depth_dNs l; simp only [PyData.depth]; omega)
end K0

/-! ## F25 -/
set_option maxRecDepth 100000
set_option maxHeartbeats 2000000
namespace K0
open PySem L2 NS ND RZ
/-! ### values that are no products of the drawn ones -/
def OddV (K : PySem.W.Frag) (S : Po) (H : Hp) (v : V) : Prop := ∀ H', Same H H' → PdV K H' v false ∨ ∃ a q, v = .ref a ∧ ProA H' a q ∧ WfP q ∧ hasP S q = false
theorem OddV.same {K : PySem.W.Frag} {S : Po} {H H' : Hp} {v : V} (h : OddV K S H v) (s : Same H H') : OddV K S H' v := fun H2 s2 => h H2 (Same.tr s s2)
theorem tri_read (x : Str) (r : List Int) (v : V) (few : r.length ≤ 1000) {σ : L2.St} {H : Hp} {Q : VK} (h : ∀ t b H', Same H H' → H' t = some (.tup [.str x, .ref b, v]) → RowA H' b r → Q (.ref t) H') :
    tTup (tCons (tC (.str x)) (tCons (tTup (tInts r)) (tCons (tC v) tNil))) σ H Q := by
  refine ints_read (σ := σ) r ⟨?_, fun b hb => ⟨by show 3 ≤ sizeLine; rw [sizeLine_eq]; decide, fun t ht => ?_⟩⟩
  · rw [List.length_map]
    exact Nat.le_of_lt (small1000 few)
  · have s1 : Same H (upd H b (.tup (r.map V.int))) := Same.new _ hb
    have s2 : Same (upd H b (.tup (r.map V.int))) (upd (upd H b (.tup (r.map V.int))) t (.tup [.str x, .ref b, v])) := Same.new _ ht
    exact h t b _ (Same.tr s1 s2) upd_same (s2 _ _ upd_same)
/-- a tuple of one -/
theorem one_read {te : TE} {σ : L2.St} {H : Hp} {Q : VK} (h : te σ H fun v H1 => ∀ t, H1 t = none → Q (.ref t) (upd H1 t (.tup [v]))) (mono : ∀ (P R : VK), (∀ v H1, P v H1 → R v H1) → te σ H P → te σ H R) : tTup (tCons te tNil) σ H Q :=
  mono _ _ (fun v H1 k => ⟨by show 1 ≤ sizeLine; rw [sizeLine_eq]; decide, k⟩) h
theorem c0 {te : TE} {ta : TA} {σ : L2.St} {H : Hp} {Q : List V → Hp → Prop} (h : te σ H fun v H1 => ta σ H1 fun xs H2 => Q (v :: xs) H2) : tCons te ta σ H Q := h
theorem c1 {te : TE} {ta : TA} {σ : L2.St} {H : Hp} {Q : List V → Hp → Prop} (h : te σ H fun v H1 => ∀ t, H1 t = none → ta σ (upd H1 t (.tup [v])) fun xs H2 => Q (.ref t :: xs) H2) (mono : ∀ (P R : VK), (∀ v H1, P v H1 → R v H1) → te σ H P → te σ H R) : tCons (tTup (tCons te tNil)) ta σ H Q :=
  mono _ _ (fun v H1 k => ⟨by show 1 ≤ sizeLine; rw [sizeLine_eq]; decide, k⟩) h
theorem tri_mono (x : Str) (r : List Int) (v : V) {σ : L2.St} {H : Hp} (P R : VK) (h : ∀ v H1, P v H1 → R v H1) (k : tTup (tCons (tC (.str x)) (tCons (tTup (tInts r)) (tCons (tC v) tNil))) σ H P) : tTup (tCons (tC (.str x)) (tCons (tTup (tInts r)) (tCons (tC v) tNil))) σ H R := by
  have im : ∀ (r : List Int) (H : Hp) (P R : List V → Hp → Prop), (∀ x H, P x H → R x H) → tInts r σ H P → tInts r σ H R := fun r => by
    induction r with
    | nil => exact fun H P R h k => h _ _ k
    | cons i r ih => exact fun H P R h k => ih H _ _ (fun x H q => h _ _ q) k
  exact im r H _ _ (fun xs H1 q => ⟨q.1, fun b hb => ⟨(q.2 b hb).1, fun t ht => h _ _ ((q.2 b hb).2 t ht)⟩⟩) k
theorem ent_mono (e : Ent) {σ : L2.St} {H : Hp} (P R : VK) (h : ∀ v H1, P v H1 → R v H1) (k : tEnt e σ H P) : tEnt e σ H R := by
  have im : ∀ (r : List Int) (H : Hp) (P R : List V → Hp → Prop), (∀ x H, P x H → R x H) → tInts r σ H P → tInts r σ H R := fun r => by
    induction r with
    | nil => exact fun H P R h k => h _ _ k
    | cons i r ih => exact fun H P R h k => ih H _ _ (fun x H q => h _ _ q) k
  exact im e.2 H _ _ (fun xs H1 q => ⟨q.1, fun b hb => ⟨(q.2 b hb).1, fun t ht => h _ _ ((q.2 b hb).2 t ht)⟩⟩) k
abbrev tr12 : Ent := ("r", [1, 2])
abbrev p99 : Pr := [("r", [9, 9], 1)]
theorem wf99 : WfP p99 := ⟨fun t ht => by rw [List.mem_singleton.mp ht]; exact ⟨by decide +kernel, by decide +kernel, by decide +kernel⟩, rfl, by decide⟩
theorem has99 {S L : Po} (pm : (S.map strip).Perm (L.map strip)) (g : GoodL L) : hasP S p99 = false := by
  refine Bool.eq_false_iff.mpr fun h => ?_
  rw [has_strip pm] at h
  obtain ⟨e, he, z⟩ := List.any_eq_true.mp h
  have z' : e.1 = p99 := of_decide_eq_true z
  have y := g.pool e he ("r", [9, 9], 1) (by rw [z']; exact List.mem_singleton.mpr rfl)
  exact absurd y (by decide +kernel)
section
variable {P : Program} {w : World} {K : PySem.W.Frag} {C : Addr}
theorem odd_ty {S : Po} {H : Hp} {v : V} {t : Value} (h : ∀ H', Same H H' → TyX K H' v t) (k : PySem.W.kitOne K t (.type "tuple") = some false) : OddV K S H v := fun H' s => .inl (.other (h H' s) k)
theorem tu_row {H : Hp} {b : Addr} {r : List Int} (h : RowA H b r) (few : r.length ≤ 1000) : Tu H (.ref b) := fun a xs e hx => by
  cases e
  have h' : H b = some (.tup (r.map V.int)) := h
  rw [h'] at hx
  cases hx
  refine ⟨by rw [List.length_map]; exact few, fun x hx => ?_⟩
  obtain ⟨i, _, rfl⟩ := List.mem_map.mp hx
  exact ⟨.int i, True.intro⟩
theorem da_row {H : Hp} {b : Addr} {r : List Int} (h : RowA H b r) : Da H (.ref b) := .tup h
/-- (a pair,) -/
theorem odd_pair {S : Po} {H : Hp} {t a : Addr} {x y : V} (h : H t = some (.tup [.ref a])) (h2 : H a = some (.tup [x, y])) : OddV K S H (.ref t) := fun H' s =>
  .inl (.odd (s _ _ h) (by show 1 ≤ 1000; decide) (fun _ => false) (fun x hx => by rw [List.mem_singleton.mp hx]; exact .size (s _ _ h2) (by show 2 ≠ 3; decide)) rfl)
/-- (a triple that counts with a truth value,) -/
theorem odd_true {S : Po} {H : Hp} {t a b : Addr} {z : Str} {r : List Int} (hz : z.length ≤ 1000) (few : r.length ≤ 1000) (h : H t = some (.tup [.ref a])) (h2 : H a = some (.tup [.str z, .ref b, .bl true])) (h3 : RowA H b r) : OddV K S H (.ref t) := fun H' s =>
  .inl (.odd (s _ _ h) (by show 1 ≤ 1000; decide) (fun _ => (nameV (.str z) && onTup H' rowL (.ref b)) && tmV (.bl true)) (fun x hx => by
    rw [List.mem_singleton.mp hx]
    have r' : RowA H' b r := s _ _ h3
    exact .tri (s _ _ h2) (.str z) hz (da_row r') (tu_row r' few) (.bl true)) (by
      show (((nameV (.str z) && onTup H' rowL (.ref b)) && false) && true) = false
      rw [Bool.and_false]
      rfl))
/-- a triple itself -/
theorem odd_tri {S : Po} {H : Hp} {t b : Addr} {z : Str} {r : List Int} {i : Int} (h : H t = some (.tup [.str z, .ref b, .int i])) (h3 : RowA H b r) (n3 : r.length ≠ 3) : OddV K S H (.ref t) := fun H' s =>
  .inl (.odd (s _ _ h) (by show 3 ≤ 1000; decide) (fun _ => false) (fun x hx => by
    have hx' : x = .str z ∨ x = .ref b ∨ x = .int i := by simpa using hx
    rcases hx' with rfl | rfl | rfl
    · exact .other (.str z) rfl
    · have r' : H' b = some (.tup (r.map V.int)) := s _ _ h3
      exact .size r' (by rw [List.length_map]; exact n3)
    · exact .other (.int i) rfl) rfl)
abbrev tOdd : TE := tLst (tCons (tC V.non) (tCons (tC (V.int 0)) (tCons (tC (V.str "")) (tCons (tC (V.str "r")) (tCons (tLst tNil) (tCons tDNewK (tCons (tVar 0)
  (tCons (tTup (tCons (tEnt tr12) tNil)) (tCons (tTup (tCons (tTup (tCons (tC (V.str "r")) (tCons (tTup (tInts [1, 2])) (tCons (tC (V.bl true)) tNil)))) tNil))
  (tCons (tTup (tCons (tTup (tCons (tC (V.str "r")) (tCons (tTup (tInts [9, 9])) (tCons (tC (V.int 1)) tNil)))) tNil))
  (tCons (tTup (tCons (tC (V.str "r")) (tCons (tTup (tInts [1, 2])) (tCons (tC (V.int 1)) tNil)))) tNil)))))))))))
theorem odd_list {S L : Po} (pm : (S.map strip).Perm (L.map strip)) (g : GoodL L) (T : TWh K C) (I : TIs K C) {p : Addr} {r : List (Option V)} {H : Hp} {Q : VK} (hw : WhO P w C H p S)
    (h : ∀ o vals H', Same H H' → H' o = some (.lst vals) → vals.length ≤ 11 → (∀ v ∈ vals, OddV K S H' v) → Q (.ref o) H') : tOdd (some (.ref p) :: r) H Q := by
  refine ⟨Nat.zero_le _, fun a5 h5 => ?_⟩
  intro a6 h6
  have s5 : Same H (upd H a5 (.lst [])) := Same.new _ h5
  have s6 : Same (upd H a5 (.lst [])) (upd (upd H a5 (.lst [])) a6 (.dK [])) := Same.new _ h6
  have g5 := s6 _ _ (upd_same (H := H) (a := a5) (o := .lst []))
  have g6 : (upd (upd H a5 (.lst [])) a6 (.dK [])) a6 = some (.dK []) := upd_same
  generalize upd (upd H a5 (.lst [])) a6 (.dK []) = H6 at s6 g5 g6 ⊢
  have hw6 := hw.same (Same.tr s5 s6)
  refine ⟨_, rfl, ?_⟩
  refine c1 (ent_read tr12 (by decide) fun e8 H7 s7 ea8 t8 h8 => ?_) (ent_mono tr12)
  obtain ⟨b8, ea8, _⟩ := ea8
  have s8 : Same H7 (upd H7 t8 (.tup [.ref e8])) := Same.new _ h8
  have g8 : (upd H7 t8 (.tup [.ref e8])) t8 = some (.tup [.ref e8]) := upd_same
  have f8 := s8 _ _ ea8
  generalize upd H7 t8 (.tup [.ref e8]) = H8 at s8 g8 f8 ⊢
  refine c1 (tri_read "r" [1, 2] (.bl true) (by decide) fun e9 b9 H9 s9 ea9 eb9 t9 h9 => ?_) (tri_mono "r" [1, 2] (.bl true))
  have s9' : Same H9 (upd H9 t9 (.tup [.ref e9])) := Same.new _ h9
  have g9 : (upd H9 t9 (.tup [.ref e9])) t9 = some (.tup [.ref e9]) := upd_same
  have f9 := s9' _ _ ea9
  have r9 : RowA (upd H9 t9 (.tup [.ref e9])) b9 [1, 2] := s9' _ _ eb9
  generalize upd H9 t9 (.tup [.ref e9]) = HA at s9' g9 f9 r9 ⊢
  refine c1 (tri_read "r" [9, 9] (.int 1) (by decide) fun e10 b10 HB s10 ea10 eb10 t10 h10 => ?_) (tri_mono "r" [9, 9] (.int 1))
  have s10' : Same HB (upd HB t10 (.tup [.ref e10])) := Same.new _ h10
  have g10 : (upd HB t10 (.tup [.ref e10])) t10 = some (.tup [.ref e10]) := upd_same
  have f10 := s10' _ _ ea10
  have r10 : RowA (upd HB t10 (.tup [.ref e10])) b10 [9, 9] := s10' _ _ eb10
  generalize upd HB t10 (.tup [.ref e10]) = HC at s10' g10 f10 r10 ⊢
  refine c0 (tri_read "r" [1, 2] (.int 1) (by decide) fun t11 b11 HD s11 ea11 eb11 => ?_)
  refine ⟨by show 11 ≤ sizeLine; rw [sizeLine_eq]; decide, fun o ho => ?_⟩
  have sAll : Same H6 HD := Same.tr s7 (Same.tr s8 (Same.tr s9 (Same.tr s9' (Same.tr s10 (Same.tr s10' s11)))))
  have s8D : Same H8 HD := Same.tr s9 (Same.tr s9' (Same.tr s10 (Same.tr s10' s11)))
  have sAD : Same HA HD := Same.tr s10 (Same.tr s10' s11)
  have s6D := Same.tr s5 (Same.tr s6 sAll)
  have all : ∀ v ∈ ([.non, .int 0, .str "", .str "r", .ref a5, .ref a6, .ref p, .ref t8, .ref t9, .ref t10, .ref t11] : List V), OddV K S HD v := by
    intro v hv
    simp only [List.mem_cons, List.not_mem_nil, or_false] at hv
    rcases hv with rfl | rfl | rfl | rfl | rfl | rfl | rfl | rfl | rfl | rfl | rfl
    · exact odd_ty (fun _ _ => .base .non) (kit_ty (by decide +kernel))
    · exact odd_ty (fun _ _ => .base (.int 0)) (kit_ty (by decide +kernel))
    · exact odd_ty (fun _ _ => .base (.str _)) (kit_ty (by decide +kernel))
    · exact odd_ty (fun _ _ => .base (.str _)) (kit_ty (by decide +kernel))
    · exact odd_ty (fun _ s => .base (.lst (s _ _ (sAll _ _ g5)))) (kit_ty (by decide +kernel))
    · exact odd_ty (fun _ s => .base (.dK (s _ _ (sAll _ _ g6)))) (kit_ty (by decide +kernel))
    · refine odd_ty (t := .ref C) (fun H' s => ?_) I.noT
      obtain ⟨dp, wa⟩ := hw6.same (Same.tr sAll s)
      exact wa.ty T I
    · exact odd_pair (s8D _ _ g8) (s8D _ _ f8)
    · exact odd_true (z := "r") (by decide +kernel) (by decide) (sAD _ _ g9) (sAD _ _ f9) (sAD _ _ r9)
    · exact fun H' s => .inr ⟨t10, p99, rfl, ⟨[e10], s _ _ (s11 _ _ g10), .cons ⟨b10, s _ _ (s11 _ _ f10), s _ _ (s11 _ _ r10)⟩ .nil⟩, wf99, has99 pm g⟩
    · exact odd_tri ea11 eb11 (by decide)
  have so : Same HD (upd HD o (.lst [.non, .int 0, .str "", .str "r", .ref a5, .ref a6, .ref p, .ref t8, .ref t9, .ref t10, .ref t11])) := Same.new _ ho
  exact h o _ _ (Same.tr s6D so) upd_same (by show 11 ≤ 11; decide) fun v hv => (all v hv).same so
end
end K0

/-! ## F23 -/
set_option maxRecDepth 100000
set_option maxHeartbeats 2000000
namespace K0
open PySem L2 NS ND RZ
theorem for_walk {J : It} {n : Nat} {G : Hp → Prop} {Y : Nat → Hp → V → Hp → Prop} (w : Walk J n G Y) {g : TG} {tb : L2.TS} {D : Ends} {σ : L2.St} {H : Hp} (Pv : Nat → L2.St → Hp → Prop) (h0 : Pv 0 σ H) (hG : ∀ i σ H, i ≤ n → Pv i σ H → G H)
    (hs : ∀ i x σ H H', i < n → Pv i σ H → Y i H x H' → g x σ H' fun σ2 H2 => tb { D with nx := Pv (i + 1), ct := Pv (i + 1), bk := D.nx } σ2 H2) (hd : ∀ σ H, Pv n σ H → D.nx σ H) :
    ∃ W : Nat → Nat → L2.St → Hp → Prop, (∃ m, W 0 m σ H) ∧ ∀ i m σ H, W i m σ H →
      (J.stop i H ∧ D.nx σ H) ∨ (J.go i H ∧ ∃ N : L2.St → Hp → Prop, (∀ σ' H', N σ' H' → ∃ m', m' < m ∧ W (i + 1) m' σ' H') ∧ ∀ x H', J.yld i H x H' → g x σ H' fun σ2 H2 => tb { D with nx := N, ct := N, bk := D.nx } σ2 H2) := by
  refine ⟨fun i m σ H => m = n - i ∧ i ≤ n ∧ Pv i σ H, ⟨n, by simp, Nat.zero_le _, h0⟩, ?_⟩
  rintro i m σ H ⟨rfl, hi, p⟩
  have q := hG i σ H hi p
  by_cases hlt : i < n
  · exact .inr ⟨w.goes i H hlt q, Pv (i + 1), fun σ' H' p' => ⟨n - (i + 1), by omega, rfl, hlt, p'⟩, fun x H' y => hs i x σ H H' hlt p (w.yields i H x H' hlt q y)⟩
  · have e : i = n := by omega
    subst e
    exact .inl ⟨w.stops H q, hd σ H p⟩
theorem es_app {H : Hp} : ∀ {ts us : List Addr} {es vs : List Ent}, Es H ts es → Es H us vs → Es H (ts ++ us) (es ++ vs)
  | _, _, _, _, .nil, h => h
  | _, _, _, _, .cons a r, h => .cons a (es_app r h)
theorem ents_few : ∀ {L : Po} {n : Nat}, (∀ e ∈ L, e.1.length ≤ n) → (entsOf L).length ≤ L.length * n
  | [], _, _ => Nat.zero_le _
  | e :: L, n, h => by
    have i := ents_few (L := L) fun x hx => h x (List.mem_cons_of_mem _ hx)
    have z := h e List.mem_cons_self
    have e0 : entsOf (e :: L) = entsP e.1 ++ entsOf L := rfl
    have e1 : (entsP e.1).length = e.1.length := List.length_map _
    rw [e0, List.length_append, e1, List.length_cons, Nat.add_mul]
    omega
theorem GoodL.ents {L : Po} (g : GoodL L) : (entsOf L).length ≤ 9 := by
  have z := ents_few g.fewP
  have := g.few
  omega
theorem GoodL.inPool {L : Po} (g : GoodL L) : ∀ e ∈ entsOf L, e ∈ K0.pool := fun e h => by
  obtain ⟨l, hl, he⟩ := List.mem_flatten.mp h
  obtain ⟨x, hx, rfl⟩ := List.mem_map.mp hl
  obtain ⟨t, ht, rfl⟩ := List.mem_map.mp he
  exact g.pool x hx t ht
theorem PoA.ref {P : Program} {w : World} {H H' : Hp} {d : Addr} {L : Po} (h : PoA P w H d L) (s : Same H H') : Rd H' d (DicN P w d (L.map enP)) := .inl (s _ _ h.1)
theorem esT_lay {es : List Ent} (h : ∀ e ∈ es, nameS e.1 = true) : PyData.canLay0 (.tuple (es.map dE)) = true := by
  simp only [PyData.canLay0]
  exact lay_es h
theorem esT_shaped {es : List Ent} (h : ∀ e ∈ es, nameS e.1 = true) : SeqAt.shaped (.tuple (es.map dE)) = true :=
  shaped_of (esT_lay h) (by have := depth_es es; simp only [PyData.depth]; omega)
theorem pro_of {S L : Po} (pm : (S.map strip).Perm (L.map strip)) {e : Pr × Addr × Int} (h : e ∈ S) : ∃ u ∈ L, u.1 = e.1 := by
  obtain ⟨y, hy, z⟩ := List.mem_map.mp (pm.mem_iff.mp (List.mem_map.mpr ⟨e, h, rfl⟩))
  exact ⟨y, hy, strip_fst z⟩
theorem needed_in {S : Po} {e : Ent} (h : e ∈ neededOf S) : e ∈ entsOf S := by
  cases S with
  | nil => exact absurd h List.not_mem_nil
  | cons x S => exact List.mem_flatten.mpr ⟨entsP x.1, List.mem_map.mpr ⟨x, List.mem_cons_self, rfl⟩, (List.mem_filter.mp h).1⟩
def dPx (x : Pr × Int) : PyData := dP x.1
theorem refs_dp {K : PySem.W.Frag} {H : Hp} : ∀ {S : Po}, Ks H S → DpAll K H (S.map fun e => V.ref e.2.1) ((S.map strip).map dPx)
  | [], _ => .nil
  | e :: _, h => .cons (h e List.mem_cons_self).dp (refs_dp fun x hx => h x (List.mem_cons_of_mem _ hx))
theorem lay_dPs : ∀ {l : List (Pr × Int)}, (∀ x ∈ l, ∀ t ∈ x.1, nameS t.1 = true) → PyData.canLayAll0 (l.map dPx) = true
  | [], _ => rfl
  | x :: l, h => by
    rw [List.map_cons, PyData.canLayAll0, show PyData.canLay0 (dPx x) = true from dP_lay (h x List.mem_cons_self), lay_dPs fun y hy => h y (List.mem_cons_of_mem _ hy)]
    rfl
theorem depth_dPs : ∀ l : List (Pr × Int), PyData.depthAll (l.map dPx) ≤ 3
  | [] => by simp [PyData.depthAll]
  | x :: l => by
    have h1 := depth_dPs l
    have h2 : (dPx x).depth ≤ 3 := dP_depth x.1
    simp only [List.map_cons, PyData.depthAll]
    omega
theorem dPs_lay {l : List (Pr × Int)} (h : ∀ x ∈ l, ∀ t ∈ x.1, nameS t.1 = true) : PyData.canLay0 (.list (l.map dPx)) = true := by
  simp only [PyData.canLay0]
  exact lay_dPs h
theorem dPs_shaped {l : List (Pr × Int)} (h : ∀ x ∈ l, ∀ t ∈ x.1, nameS t.1 = true) : SeqAt.shaped (.list (l.map dPx)) = true :=
  shaped_of (dPs_lay h) (by have := depth_dPs l; simp only [PyData.depth]; omega)
def spToldR (P : Program) (w : World) (K : PySem.W.Frag) (C : Addr) : Sp := fun vs H Q _ => ∃ (p d : Addr) (S L : Po), vs = [.ref p, .ref d] ∧ WhO P w C H p S ∧ (∀ dp, WhA P w C H p dp S → dp ≠ d) ∧ PoA P w H d L ∧ GoodL L ∧ (S.map strip).Perm (L.map strip) ∧ ∀ H', Same H H' → Q (.bl true) H'
section
variable {P : Program} {w : World} {K : PySem.W.Frag} {mg : Str → Option Value} {base : Heap} {C fT : Addr} {fdT : FuncData}
abbrev scTRin : Scope := { kind := ScopeKind.function, names := [], isGenerator := false, isCoroutine := false }
theorem ok_toldR {f : Addr} {fd : FuncData} (F : Fun K "_law_told_right" "_law_told_right" sToldR f fd) (Z : QW P w K mg base C) (B : TS K mg) (eT : Glo K mg "_law_text" fT) (GT : FnOk P w K mg base CX0 2 fT fdT ["_law_parts"] (spText P w)) (bT : Binds K fdT ["_law_parts"] []) : FnOk P w K mg base CX0 8 f fd ["_law_whence", "_law_parts"] (spToldR P w K C) := by
  refine F.ok scToldR (fun vs H Q E h => ?_) (fun cdv A outer s H vs Q E hr h => ?_)
  · obtain ⟨p, d, S, L, rfl, _⟩ := h
    rfl
  · obtain ⟨p, d, S, L, rfl, hw, hnd, hd, g, pm, k⟩ := h
    have hr2 : Room 2 _ := hr.mono (by decide)
    have hr3 : Room 3 _ := hr.mono (by decide)
    have hr4 : Room 4 _ := hr.mono (by decide)
    have hr5 : Room 5 _ := hr.mono (by decide)
    refine ⟨_, pss_cons (ps_set (i := 2) scToldR.nd rfl (Or.inr rfl) (pe_lst pa_nil))
      (C8.pss_cut (ps_lock (ps_for PassesOwn.never rfl (pi_nk (pv 1)) (pg_name (i := 3) scToldR.nd rfl (Or.inl rfl))
        (pss_one (ps_set (i := 2) scToldR.nd rfl (Or.inr rfl) (pe_op op_cat (pv 2) (pe_lc (own := [("_law_table", 6), ("_law_row", 7), ("_law_times", 8)]) (g := gTup K 3 (gCons (gName 6) (gCons (gName 7) (gCons (gName 8) gNil)))) (tt := tYes) (te := tTup (tCons (tVar 6) (tCons (tVar 7) tNil))) rfl scToldR.nd (pi_tup (pv 3))
            (blkOk_by (own := [("_law_table", 6), ("_law_row", 7), ("_law_times", 8)]) (N := nToldR) (sc := defScope sToldR) (by decide +kernel))
            (fun _ _ _ _ _ => pg_tup rfl (pgs_cons (pg_name (i := 6) scToldR.nd rfl (Or.inl rfl)) (pgs_cons (pg_name (i := 7) scToldR.nd rfl (Or.inl rfl)) (pgs_cons (pg_name (i := 8) scToldR.nd rfl (Or.inl rfl)) pgs_nil)))) (fun _ _ _ _ _ => pts_nil)
            (fun _ _ _ _ _ => pe_tup (pa_cons (pv 6) (pa_cons (pv 7) pa_nil)))))))))
      (C8.pss_cut (ps_setLc (i := 4) (own := [("_law_pair", 9)]) (g := gName 9) (tt := tTest (tOp rEq (tBM K "list" (rCntD K) (tVar 2) (tCons (tVar 9) tNil)) (tCB (rNLen P w K) (tCons (tVar 1) tNil)))) (by rfl) scToldR.nd rfl rfl (sw_true rfl rfl rfl (by decide +kernel))
          (pi_list (pe_callB (cr_sortSet rfl hr.units) (by rfl) B.srt (by decide +kernel) (pa_cons (pe_callTy (T := "set") (cr_setOf rfl hr.units) (by rfl) B.set (by decide +kernel) (pa_cons (pv 2) pa_nil)) pa_nil)))
          (blkOk_by (own := [("_law_pair", 9)]) (N := nToldR) (sc := defScope sToldR) (by decide +kernel)) (fun _ _ _ _ _ => pg_name (i := 9) scToldR.nd rfl (Or.inl rfl))
          (fun _ _ _ _ _ => pts_one (pt_cmpR (r := rEq) op_eq (pe_countB K (v65 hr) (pv 2) (pv 9)) (pe_callB cr_nlen (by rfl) B.len PySem.boot_len (pa_cons (pv 1) pa_nil)) (nomark _))) (fun _ _ _ _ _ => pv 9))
      (C8.pss_cut (ps_if (PW.pt (pw_or (pt_cmpR (op_neD hr.units) (pe_callTy (T := "list") (cr_nlistP rfl) (by rfl) B.lst (by decide +kernel) (pa_cons (pe_nm0 PySem.F.slot_dict_items PySem.F.type_dict_items mt_nitems (pe_gtr Z.par Z.T.cl hr2 (pv 0))) pa_nil))
              (pe_callB (cr_nsortP rfl hr.units) (by rfl) B.srt (by decide +kernel) (pa_cons (pe_nm0 PySem.F.slot_dict_items PySem.F.type_dict_items mt_nitems (pv 1)) pa_nil)) (nomark _))
            (pw_or1 (pt_cmpR (op_neD hr.units) (pe_gtr Z.unk Z.T.cl hr2 (pv 0)) (pe_callTy (T := "tuple") call_tuple_of (by rfl) B.tup (by decide +kernel) (pa_cons (pe_callB (cr_sortSet rfl hr.units) (by rfl) B.srt (by decide +kernel) (pa_cons (pe_callTy (T := "set") (cr_setOf rfl hr.units) (by rfl) B.set (by decide +kernel) (pa_cons (pv 2) pa_nil)) pa_nil)) pa_nil)) (nomark _))))) (pss_one (ps_ret pe_bl)) pss_nil)
      (C8.pss_cut (ps_if (PW.pt (pw_or (pt_cmpR op_ne (pe_gtr Z.way Z.T.cl hr2 (pv 0)) (pe_callB (cr_sum rfl) (by rfl) B.sum (by decide +kernel) (pa_cons (pe_callTy (T := "list") (cr_nlistV rfl) (by rfl) B.lst (by decide +kernel) (pa_cons (pe_nm0 PySem.F.slot_dict_values PySem.F.type_dict_values mt_nvalues (pv 1)) pa_nil)) pa_nil)) (nomark _))
            (pw_or1 (pt_cmpR (op_neD hr.units) (pe_gtr Z.need Z.T.cl hr3 (pv 0)) (pe_callTy (T := "tuple") call_tuple_of (by rfl) B.tup (by decide +kernel) (pa_cons (pv 4) pa_nil)) (nomark _))))) (pss_one (ps_ret pe_bl)) pss_nil)
      (C8.pss_cut (ps_if (PW.pt (pw_or (pt_cmpR op_ne (pe_callB (cr_len1 Z.len hr2) (by rfl) B.len PySem.boot_len (pa_cons (pv 0) pa_nil)) (pe_callB cr_nlen (by rfl) B.len PySem.boot_len (pa_cons (pv 1) pa_nil)) (nomark _))
            (pw_or (pt_cmpR (op_neD hr.units) (pe_callTy (T := "list") (cr_list1 Z rfl hr4) (by rfl) B.lst (by decide +kernel) (pa_cons (pv 0) pa_nil)) (pe_callB (cr_nsort rfl hr.units) (by rfl) B.srt (by decide +kernel) (pa_cons (pv 1) pa_nil)) (nomark _))
            (pw_or1 (pt_cmpR op_ne (pe_callTy (T := "str") (cr_str1 Z.str hr5) (by rfl) B.str (by decide +kernel) (pa_cons (pv 0) pa_nil)) (pe_call (E := E0) GT hr2 (by rfl) eT.g eT.k bT .nil pass0 (pa_cons (pv 1) pa_nil)) (nomark _)))))) (pss_one (ps_ret pe_bl)) pss_nil)
      (C8.pss_cut (ps_set (i := 5) scToldR.nd rfl (Or.inl rfl) (pe_lst (pa_cons pe_non (pa_cons pe_int (pa_cons pe_str (pa_cons pe_str (pa_cons (pe_lst pa_nil) (pa_cons pe_dnewK (pa_cons (pv 0)
          (pa_cons (pe_tup (pa_cons (pe_tup (pa_cons pe_str (pa_cons (pe_tup (pa_cons pe_int (pa_cons pe_int pa_nil))) pa_nil))) pa_nil))
          (pa_cons (pe_tup (pa_cons (pe_tup (pa_cons pe_str (pa_cons (pe_tup (pa_cons pe_int (pa_cons pe_int pa_nil))) (pa_cons pe_bl pa_nil)))) pa_nil))
          (pa_cons (pe_tup (pa_cons (pe_tup (pa_cons pe_str (pa_cons (pe_tup (pa_cons pe_int (pa_cons pe_int pa_nil))) (pa_cons pe_int pa_nil)))) pa_nil))
          (pa_cons (pe_tup (pa_cons pe_str (pa_cons (pe_tup (pa_cons pe_int (pa_cons pe_int pa_nil))) (pa_cons pe_int pa_nil)))) pa_nil)))))))))))))
      (pss_one (ps_ret (pe_and (pe_cmpR (op_eqD hr.units) (pe_lock (pe_lc (own := [("_law_product_here", 3)]) (g := gName 3) (te := tVar 3) (tt := tTest (tOp (fun x y H Q => rInOwn C (spCont P w K C) eN x y H fun v H' => ∃ c, v = .bl c ∧ Q (.bl (!c)) H') (tVar 3) (tVar 0))) rfl scToldR.nd (pi_nk (pv 1))
            (blkOk_by (own := [("_law_product_here", 3)]) (N := nToldR) (sc := defScope sToldR) (by decide +kernel)) (fun _ _ _ _ _ => pg_name (i := 3) scToldR.nd rfl (Or.inl rfl)) (fun _ _ _ _ _ => pts_one (pt_cmpR (op_nin1 Z.con (hr.mono (by decide))) (pv 3) (pv 0) rfl)) (fun _ _ _ _ _ => pv 3))) (pe_lst pa_nil) (nomark _))
          (pe_one (pe_cmpR (op_eqD hr.units) (pe_lc (own := [("_law_value", 10)]) (g := gName 10) (te := tVar 10) (tt := tTest (tOp (rInOwn C (spCont P w K C) eN) (tVar 10) (tVar 0))) rfl scToldR.nd (pi_list (pv 5))
            (blkOk_by (own := [("_law_value", 10)]) (N := nToldR) (sc := defScope sToldR) (by decide +kernel)) (fun _ _ _ _ _ => pg_name (i := 10) scToldR.nd rfl (Or.inl rfl)) (fun _ _ _ _ _ => pts_one (pt_cmpR (op_in1 Z.con (hr.mono (by decide))) (pv 10) (pv 0) rfl)) (fun _ _ _ _ _ => pv 10)) (pe_lst pa_nil) (nomark _)))))))))))), ?_⟩
    have few9 := g.ents
    refine ⟨Nat.zero_le _, fun l hl => ⟨fun σ H' => Same H H' ∧ ∃ l u3 ts, σ = [some (.ref p), some (.ref d), some (.ref l), u3, none, none, none, none, none, none, none] ∧ H' l = some (.lst (ts.map V.ref)) ∧ Es H' ts (entsOf L), ?_, ?_⟩⟩
    · have sl : Same H (upd H l (.lst [])) := Same.new _ hl
      have hd1 := hd.same sl
      refine ⟨d, _, hd1.1, True.intro, fun od => ?_⟩
      have ks1 : Ks (upd (upd H l (.lst [])) d (.frz od (DicN P w d (L.map enP)))) L := hd1.2.kd (po_ne hd1) kd_lock
      have ld : l ≠ d := fun z => by
        have y := hd.1
        rw [← z, hl] at y
        cases y
      refine ⟨_, rfl, d, od, _, rfl, upd_same, for_walk (walk_nk (P := P) (w := w) (d := d) (o := od) (M := L.map enP))
        (fun i σ H' => Same (upd (upd H l (.lst [])) d (.frz od (DicN P w d (L.map enP)))) H' ∧ ∃ l u3 ts, σ = [some (.ref p), some (.ref d), some (.ref l), u3, none, none, none, none, none, none, none] ∧ l ≠ d ∧ H' l = some (.lst (ts.map V.ref)) ∧ Es H' ts (entsOf (L.take i)))
        ⟨Same.rfl', l, none, [], rfl, ld, by rw [upd_ne ld, upd_same]; rfl, .nil⟩ (fun i σ H' _ q => q.1 _ _ upd_same) ?_ ?_⟩
      · rintro i x σ H3 H4 hi ⟨s3, l3, u3, ts, rfl, ld3, hl3, es3⟩ ⟨rfl, e', he', rfl⟩
        rw [List.getElem?_map] at he'
        obtain ⟨e, he, rfl⟩ := Option.map_eq_some_iff.mp he'
        have em := List.mem_of_getElem? he
        obtain ⟨us, g1, g2⟩ := (ks1 e em).same s3
        have lu : us.length = e.1.length := Paired.length g2
        have l3' : ts.length = _ := Paired.length es3
        have tot := entsOf_le L i
        have f3 := g.fewP e em
        refine ⟨_, rfl, _, rfl, e.2.1, rfl, ⟨_, SqT.of g1⟩, fun D hD => walk_it walk_tup (fun j H' => Same H4 H' ∧ ∃ vs, H' D = some (.lst (vs.map V.ref)) ∧ Es H' vs ((entsP e.1).take j))
          ⟨Same.new _ hD, [], upd_same, by rw [List.take_zero]; exact .nil⟩ (fun j H' _ q => SqT.of (q.1 _ _ g1)) ?_ ?_⟩
        · rintro j y H5 H6 hj ⟨s5, vs, hD5, es5⟩ ⟨rfl, hy⟩
          rw [List.getElem?_map] at hy
          obtain ⟨t, ht, rfl⟩ := Option.map_eq_some_iff.mp hy
          obtain ⟨u, hu, q⟩ := paired_get g2 ht
          obtain ⟨b, q1, q2⟩ := q.same s5
          refine ⟨t, _, rfl, SqT.of q1, rfl, _, _, rfl, _, _, rfl, _, _, rfl, rfl, rfl, ?_⟩
          dsimp only [tYes]
          rw [if_pos rfl]
          refine ⟨_, rfl, _, rfl, by show 2 ≤ sizeLine; rw [sizeLine_eq]; decide, fun m hm => ?_⟩
          have nm : D ≠ m := fun z => by rw [← z, hD5] at hm; cases hm
          have l5 : vs.length = _ := Paired.length es5
          rw [List.length_take] at l5
          refine ⟨_, by rw [upd_ne nm]; exact hD5, ?_, ?_, vs ++ [m], ?_, ?_⟩
          · rw [List.length_map, l5]
            have : (entsP e.1).length = e.1.length := List.length_map _
            exact small1000 (by omega)
          · intro c o eo
            rw [upd_ne (ne_of_none eo hD), upd_ne (ne_of_none (s5 _ _ eo) hm)]
            exact s5 _ _ eo
          · rw [upd_same, List.map_append]
            rfl
          · have z := es_put (e := entT u) hD5 es5 hm q2
            have hj2 : (entsP e.1)[j]? = some (entT u) := by
              unfold entsP
              rw [List.getElem?_map, hu]
              rfl
            rw [List.take_add_one, hj2]
            rw [List.map_append] at z
            exact z
        · rintro H5 ⟨s5, vs, hD5, es5⟩
          rw [List.length_map, lu] at es5
          have lp : (entsP e.1).length = e.1.length := List.length_map _
          rw [← lp, List.take_length] at es5
          have l5 : vs.length = _ := Paired.length es5
          refine ⟨l3, D, _, _, rfl, rfl, s5 _ _ hl3, hD5, ?_, fun c hc => ?_⟩
          · rw [List.length_map, List.length_map, sizeLine_eq]
            omega
          · have sc : Same H5 (upd H5 c (.lst (ts.map V.ref ++ vs.map V.ref))) := Same.new _ hc
            have nd : c ≠ d := fun z => by
              rw [z, s5 _ _ (s3 _ _ upd_same)] at hc
              cases hc
            refine ⟨Same.tr s3 (Same.tr s5 sc), c, _, ts ++ vs, rfl, nd, by rw [upd_same, List.map_append], ?_⟩
            rw [entsOf_take L i e he]
            exact (es_app (es3.same s5) es5).same sc
      · rintro σ H5 ⟨s5, l5, u5, ts, rfl, ld5, hl5, es5⟩
        rw [List.length_map, List.take_length] at es5
        have us := unlocked hd1.1 s5
        have fz : ∀ xs, H5 d ≠ some (.tup xs) := fun xs z => by
          rw [s5 _ _ upd_same] at z
          cases z
        exact ⟨s5 _ _ upd_same, Same.tr sl us, l5, u5, ts, rfl, by rw [upd_ne ld5]; exact hl5, es5.kd fz Kd.put⟩
    · rintro σ1 H1 ⟨s1, l1, u3, ts, rfl, hl1, es1⟩
      have nam : ∀ e ∈ entsOf L, nameS e.1 = true := fun e he => pool_nam e (g.inPool e he)
      have lt1 : ts.length = (entsOf L).length := Paired.length es1
      have wS : ∀ x ∈ S, WfP x.1 := by
        obtain ⟨dp, _, _, _, wf⟩ := hw
        exact wf.pro
      refine ⟨fun σ H' => Same H H' ∧ ∃ n vs, σ = [some (.ref p), some (.ref d), some (.ref l1), u3, some (.ref n), none, none, none, none, none, none] ∧ H' l1 = some (.lst (ts.map V.ref)) ∧ Es H' ts (entsOf L) ∧ H' n = some (.lst (vs.map V.ref)) ∧ Es H' vs (neededOf S), ?_, ?_⟩
      · refine ⟨_, rfl, ?_⟩
        dsimp only [tNil]
        refine asc_ents hl1 es1 (by omega) fun H2 q ts2 es2 s2 hq hq2 he2 asc mem => ?_
        have len2 : ts2.length = es2.length := Paired.length he2
        have few2 : es2.length ≤ (entsOf L).length := len_sub (AscE.nodup asc) fun e h => (mem e).mp h
        refine ⟨q, rfl, ⟨_, SqL.of hq2⟩, fun D hD => lc_it (walk_list (K := K) (a := q) (xs := ts2.map V.ref)) (fun i H' => Same H2 H' ∧ H' D = some (.lst ((((ts2.zip es2).take i).filter fun z => decide ((entsOf L).count z.2 = L.length)).map fun z => V.ref z.1)))
          ⟨Same.new _ hD, upd_same⟩ (fun i H' _ r => SqL.of (r.1 _ _ hq2)) ?_ ?_⟩
        · rintro i x H3 H4 hi ⟨s3, hD3⟩ ⟨rfl, hx⟩
          rw [List.getElem?_map] at hx
          obtain ⟨t, ht, rfl⟩ := Option.map_eq_some_iff.mp hx
          obtain ⟨e, he, ea⟩ := paired_get he2 ht
          have em := List.mem_of_getElem? he
          have s13 := Same.tr s2 s3
          have hd4 := hd.same (Same.tr s1 s13)
          have zt : (ts2.zip es2).take (i + 1) = (ts2.zip es2).take i ++ [(t, e)] := by
            have z : (ts2.zip es2)[i]? = some (t, e) := List.getElem?_zip_eq_some.mpr ⟨ht, he⟩
            rw [List.take_add_one, z]
            rfl
          refine ⟨rfl, _, rfl, .inl ⟨rfl, _, SqL.of (s13 _ _ hl1)⟩, _, rfl, l1, .ref t, dE e, (entsOf L).map dE, rfl, rfl, .lst (SqL.of (s13 _ _ hl1)) (dpAll_es (es1.same s13)), (ea.same s3).dp, es_shaped nam, dE_shaped (nam e ((mem e).mp em)), _, rfl, d, _, rfl, .inl hd4.1, hd4.2.keyed, rfl, _, rfl, ?_⟩
          rw [cnt_es, dec_int, List.length_map]
          have bq : ((((entsOf L).count e : Nat) : Int) == ((L.length : Nat) : Int)) = decide ((entsOf L).count e = L.length) := by
            refine Bool.eq_iff_iff.mpr ?_
            rw [beq_iff_eq, decide_eq_true_iff]
            omega
          rw [bq]
          by_cases c : (entsOf L).count e = L.length
          · rw [decide_eq_true c]
            refine if_pos_of rfl ⟨_, rfl, _, hD3, ?_, ?_, ?_⟩
            · rw [List.length_map]
              refine small1000 (Nat.le_trans (List.length_filter_le _ _) ?_)
              rw [List.length_take, List.length_zip]
              omega
            · intro o ob eo
              rw [upd_ne (ne_of_none eo hD)]
              exact s3 _ _ eo
            · rw [upd_same, zt, List.filter_append, List.map_append]
              simp [c]
          · rw [decide_eq_false c]
            refine if_neg_of rfl ⟨s3, ?_⟩
            rw [hD3, zt, List.filter_append]
            simp [c]
        · rintro H3 ⟨s3, hD3⟩
          have full : (ts2.zip es2).take (ts2.map V.ref).length = ts2.zip es2 := by
            refine List.take_of_length_le ?_
            rw [List.length_zip, List.length_map]
            omega
          rw [full] at hD3
          have s13 := Same.tr s2 s3
          have e6 := es_filter (fun e => decide ((entsOf L).count e = L.length)) (he2.same s3)
          rw [needed_uniq wS g.wf.pro pm asc mem] at e6
          refine ⟨Same.tr s1 s13, D, _, rfl, s13 _ _ hl1, es1.same s13, ?_, e6⟩
          rw [hD3, List.map_map]
          rfl
      · rintro σ2 H2 ⟨s2, n, vs, rfl, hl2, es2, hn2, ev2⟩
        obtain ⟨dp, ⟨dx, ep⟩, hdp, srt, wf⟩ := id hw
        have dpd : dp ≠ d := hnd dp ⟨⟨dx, ep⟩, hdp, srt, wf⟩
        have namS : ∀ x ∈ S.map strip, ∀ t ∈ x.1, nameS t.1 = true := fun x hx t ht => by
          obtain ⟨e, he, rfl⟩ := List.mem_map.mp hx
          exact ((wf.pro e he).tri t ht).nam
        refine ⟨fun σ H' => Same H2 H' ∧ σ = [some (.ref p), some (.ref d), some (.ref l1), u3, some (.ref n), none, none, none, none, none, none], ?_, ?_⟩
        · have hw2 := hw.same s2
          refine ⟨_, rfl, p, dx, _, rfl, s2 _ _ ep, p, S, rfl, hw2, fun H3 d3 s3 hn3 hp3 => ?_⟩
          refine ⟨⟨d3, _, rfl, .inl hp3.1⟩, d3, _, rfl, rfl, .inl hp3.1, fun q hq => ?_⟩
          have s3q : Same H3 (upd H3 q (DX.itemsO q d3)) := Same.new _ hq
          refine ⟨q, d3, _, rfl, upd_same, .inl (s3q _ _ hp3.1), fun H4 a4 ts4 s4 hn4 h4 pr4 => ?_⟩
          have s24 : Same H2 H4 := Same.tr s3 (Same.tr s3q s4)
          have hd4 := hd.same (Same.tr s2 s24)
          have ks4 : Ks H4 S := hp3.2.same (Same.tr s3q s4)
          refine ⟨_, rfl, ⟨d, _, rfl, .inl hd4.1⟩, d, _, rfl, rfl, .inl hd4.1, fun q2 hq2 => ?_⟩
          have s4q : Same H4 (upd H4 q2 (DX.itemsO q2 d)) := Same.new _ hq2
          have hd5 := hd4.same s4q
          refine ⟨q2, d, _, 0, fun e => numV e.2.2, rfl, upd_same, .inl hd5.1, hd5.2.keyed, ?_, ?_, ?_, fun H6 M' q3 s6 perm kr pw hq3 h6 => ?_⟩
          · intro e he
            obtain ⟨u, _, rfl⟩ := List.mem_map.mp he
            rfl
          · intro e he
            obtain ⟨u, _, rfl⟩ := List.mem_map.mp he
            exact Nat.le_trans (kP_depth u.1) (by decide)
          · intro e he e' he'
            obtain ⟨u, _, rfl⟩ := List.mem_map.mp he
            obtain ⟨u', _, rfl⟩ := List.mem_map.mp he'
            show okKs [kP u.1, .num _] [kP u'.1, .num _] = true
            simp [okKs, okK, ok_pro]
          · have s46 : Same H4 H6 := Same.tr s4q s6
            have eM := sorted_uniq g.wf.one srt pm perm pw
            have eD : dKs (M'.map (·.2)) = (S.map strip).map dN := by rw [eM, dKs_map kN dN dK_num]
            have dp6 := rows_dp kr
            rw [eD] at dp6
            refine ⟨.list ((S.map strip).map dN), .list ((S.map strip).map dN), (Dp.lst (SqL.of (s46 _ _ h4)) ?_), .lst (SqL.of h6) dp6, dNs_shaped namS, dNs_shaped namS, _, rfl, ?_⟩
            · exact pairs_dp (ks4.same s46) (Paired.mapP pr4 fun _ _ x => s46 _ _ x)
            rw [SeqAt.eqv_refl _ (dNs_lay namS)]
            refine if_neg_of (by decide) ?_
            have s26 : Same H2 H6 := Same.tr s24 s46
            have es6 := es2.same s26
            have lS : S.length = L.length := by
              have z := pm.length_eq
              rw [List.length_map, List.length_map] at z
              exact z
            have fewS : (entsOf S).length ≤ 9 := by
              have z := ents_few (L := S) (n := 3) fun e he => by
                obtain ⟨u, hu, q⟩ := pro_of pm he
                rw [← q]
                exact g.fewP u hu
              have := g.few
              omega
            refine ⟨_, rfl, p, dx, _, rfl, s26 _ _ (s2 _ _ ep), p, S, rfl, hw2.same s26, by omega, fun H7 t7 ts7 es7 s7 h7 e7 asc7 mem7 => ?_⟩
            refine ⟨_, rfl, ?_⟩
            dsimp only [tNil]
            refine asc_ents (s7 _ _ (s26 _ _ hl2)) (es6.same s7) (by omega) fun H8 q8 ts8 es8 s8 hq8 hq8' he8 asc8 mem8 => ?_
            refine ⟨q8, _, rfl, .inl ⟨SqL.of hq8', fun t ht => ?_⟩⟩
            have e78 : es7 = es8 := asc_uniq asc7 asc8 fun e => by rw [mem7, mem8]; exact ents_strip pm e
            subst e78
            have nam7 : ∀ e ∈ es7, nameS e.1 = true := fun e he => nam e ((mem8 e).mp he)
            have st : Same H8 (upd H8 t (.tup (ts8.map V.ref))) := Same.new _ ht
            have s78 := Same.tr s8 st
            refine ⟨.tuple (es7.map dE), .tuple (es7.map dE), .tup (SqT.of (s78 _ _ h7)) (dpAll_es (e7.same s78)), .tup (SqT.of upd_same) (dpAll_es (he8.same st)), esT_shaped nam7, esT_shaped nam7, _, rfl, ?_⟩
            rw [SeqAt.eqv_refl _ (esT_lay nam7)]
            exact if_neg_of (by decide) ⟨Same.tr s26 (Same.tr s7 s78), rfl⟩
        · rintro σ3 H3 ⟨s3, rfl⟩
          have namN : ∀ e ∈ neededOf S, nameS e.1 = true := fun e he => nam e ((ents_strip pm e).mp (needed_in he))
          refine ⟨fun σ H' => Same H2 H' ∧ σ = [some (.ref p), some (.ref d), some (.ref l1), u3, some (.ref n), none, none, none, none, none, none], ?_, ?_⟩
          · have s03 := Same.tr s2 s3
            refine ⟨_, rfl, p, dx, _, rfl, s03 _ _ ep, p, S, rfl, hw.same s03, fun H4 s4 => ?_⟩
            have s04 := Same.tr s03 s4
            refine ⟨_, rfl, ⟨d, _, rfl, .inl (hd.same s04).1⟩, d, _, rfl, rfl, .inl (hd.same s04).1, fun q hq => ?_⟩
            have s4q : Same H4 (upd H4 q (valsO q d)) := Same.new _ hq
            refine ⟨q, d, _, rfl, upd_same, .inl (hd.same (Same.tr s04 s4q)).1, fun l hl => ?_⟩
            rw [vals_enP]
            have s4l : Same H4 (upd (upd H4 q (valsO q d)) l (.lst ((numsP L).map V.int))) := Same.tr s4q (Same.new _ hl)
            refine ⟨l, numsP L, rfl, SqL.of upd_same, rfl, _, rfl, ?_⟩
            rw [sumsP pm, decide_eq_true rfl]
            refine if_neg_of (by decide) ?_
            have s05 := Same.tr s04 s4l
            have s25 := Same.tr s3 (Same.tr s4 s4l)
            refine ⟨_, rfl, p, dx, _, rfl, s05 _ _ ep, p, S, rfl, hw.same s05, fun H6 t6 ts6 s6 h6 e6 => ?_⟩
            have s26 := Same.tr s25 s6
            refine ⟨_, rfl, n, _, rfl, .inl ⟨SqL.of (s26 _ _ hn2), fun t ht => ?_⟩⟩
            have st : Same H6 (upd H6 t (.tup (vs.map V.ref))) := Same.new _ ht
            refine ⟨.tuple ((neededOf S).map dE), .tuple ((neededOf S).map dE), .tup (SqT.of (st _ _ h6)) (dpAll_es (e6.same st)), .tup (SqT.of upd_same) (dpAll_es ((ev2.same s26).same st)), esT_shaped namN, esT_shaped namN, _, rfl, ?_⟩
            rw [SeqAt.eqv_refl _ (esT_lay namN)]
            exact if_neg_of (by decide) ⟨Same.tr s26 st, rfl⟩
          · rintro σ4 H4 ⟨s4, rfl⟩
            have lS : S.length = L.length := by
              have z := pm.length_eq
              rw [List.length_map, List.length_map] at z
              exact z
            have fewL := g.few
            have fewPS : ∀ e ∈ S, e.1.length ≤ 8 := fun e he => by
              obtain ⟨u, hu, q⟩ := pro_of pm he
              have := g.fewP u hu
              rw [← q]
              omega
            have fewPL : ∀ e ∈ L, e.1.length ≤ 8 := fun e he => by
              have := g.fewP e he
              omega
            refine ⟨fun σ H' => Same H2 H' ∧ σ = [some (.ref p), some (.ref d), some (.ref l1), u3, some (.ref n), none, none, none, none, none, none], ?_, ?_⟩
            · have s04 := Same.tr s2 s4
              have hd4 := hd.same s04
              have hdp4 := hdp.same s04
              refine ⟨_, rfl, p, dx, _, rfl, s04 _ _ ep, p, dx, _, dp, _, rfl, s04 _ _ ep, look1 dp, .inl hdp4.1, hdp4.2.keyed, _, rfl, by omega, by rw [List.length_map]; omega, ?_⟩
              refine ⟨_, rfl, d, _, rfl, .inl hd4.1, hd4.2.keyed, rfl, _, rfl, ?_⟩
              rw [List.length_map, List.length_map, lS, decide_eq_true rfl]
              refine if_neg_of (by decide) ?_
              refine ⟨_, rfl, p, dx, _, dp, _, rfl, s04 _ _ ep, look1 dp, hdp4.1, hdp4.2.keyed, by rw [List.length_map]; omega, fun q hq => ?_⟩
              rw [refs_enP]
              have sq : Same H4 (upd H4 q (.lst (S.map fun e => V.ref e.2.1))) := Same.new _ hq
              have hd5 := hd4.same sq
              refine ⟨_, rfl, d, _, 3, rfl, .inl hd5.1, hd5.2.keyed, lined_po L, fun M' l pm' pw hl => ?_⟩
              obtain ⟨S', pS, rfl, srt'⟩ := srt_of g.wf pm' pw
              have hrefs : (List.map (fun m : NS.Row => V.ref m.1) (List.map (fun e : Pr × Addr × Int => (e.2.1, kP e.1)) S')) = S'.map fun e => V.ref e.2.1 := by rw [List.map_map]; rfl
              rw [hrefs]
              have eS : S'.map strip = S.map strip := strip_uniq srt' srt ((pS.map strip).trans pm.symm)
              have sl : Same H4 (upd (upd H4 q (.lst (S.map fun e => V.ref e.2.1))) l (.lst (S'.map fun e => V.ref e.2.1))) := Same.tr sq (Same.new _ hl)
              have s5l : Same (upd H4 q (.lst (S.map fun e => V.ref e.2.1))) (upd (upd H4 q (.lst (S.map fun e => V.ref e.2.1))) l (.lst (S'.map fun e => V.ref e.2.1))) := Same.new _ hl
              have dS' : DpAll K (upd (upd H4 q (.lst (S.map fun e => V.ref e.2.1))) l (.lst (S'.map fun e => V.ref e.2.1))) (S'.map fun e => V.ref e.2.1) ((S.map strip).map dPx) := by
                rw [← eS]
                exact refs_dp ((hd4.2.same sl).perm pS)
              refine ⟨.list ((S.map strip).map dPx), .list ((S.map strip).map dPx), .lst (SqL.of (s5l _ _ upd_same)) (refs_dp (hdp4.2.same sl)), .lst (SqL.of upd_same) dS', dPs_shaped namS, dPs_shaped namS, _, rfl, ?_⟩
              rw [SeqAt.eqv_refl _ (dPs_lay namS)]
              refine if_neg_of (by decide) ?_
              have s0l := Same.tr s04 sl
              refine ⟨_, rfl, p, dx, _, rfl, s0l _ _ ep, p, S, rfl, hw.same s0l, by omega, fewPS, fun H6 s6 => ⟨_, rfl, ?_⟩⟩
              have s06 := Same.tr s0l s6
              refine ⟨_, rfl, d, L, rfl, hd.same s06, g.wf, by omega, fewPL, fun H7 S7 s7 p7 srt7 => ⟨rfl, _, rfl, ?_⟩⟩
              have e7 : poS S7 = poS S := by rw [poS_strip, poS_strip, strip_uniq srt7 srt ((p7.map strip).trans pm.symm)]
              rw [e7, decide_eq_true rfl]
              exact if_neg_of (by decide) ⟨Same.tr s4 (Same.tr sl (Same.tr s6 s7)), rfl⟩
            · rintro σ5 H5 ⟨s5, rfl⟩
              refine ⟨fun σ H' => Same H2 H' ∧ ∃ o vals, σ = [some (.ref p), some (.ref d), some (.ref l1), u3, some (.ref n), some (.ref o), none, none, none, none, none] ∧ H' o = some (.lst vals) ∧ vals.length ≤ 11 ∧ ∀ v ∈ vals, OddV K S H' v, ?_, ?_⟩
              · dsimp only [tAsg]
                exact odd_list pm g Z.T Z.I (hw.same (Same.tr s2 s5)) fun o vals H6 s6 ho len hv => ⟨Same.tr s5 s6, o, vals, rfl, ho, len, hv⟩
              · rintro σ6 H6 ⟨s6, o, vals, rfl, ho, len, hv⟩
                have s06 := Same.tr s2 s6
                have hd6 := hd.same s06
                have hdp6 := hdp.same s06
                have ep6 := s06 _ _ ep
                have npd : p ≠ d := fun z => by
                  have y := hd6.1
                  rw [← z, ep6] at y
                  cases y
                refine ⟨d, _, hd6.1, True.intro, fun od => ?_⟩
                have fz : ∀ xs, H6 d ≠ some (.tup xs) := po_ne hd6
                have hwL : WhO P w C (upd H6 d (.frz od (DicN P w d (L.map enP)))) p S := ⟨dp, ⟨dx, by rw [upd_ne npd]; exact ep6⟩, ⟨by rw [upd_ne dpd]; exact hdp6.1, hdp6.2.kd fz kd_lock⟩, srt, wf⟩
                have epL : (upd H6 d (.frz od (DicN P w d (L.map enP)))) p = some (.ins C dx [("_parts", .ref dp)]) := by rw [upd_ne npd]; exact ep6
                have ksL : Ks (upd H6 d (.frz od (DicN P w d (L.map enP)))) L := hd6.2.kd fz kd_lock
                refine ⟨_, rfl, d, od, _, rfl, upd_same, fun D hD => lc_it (walk_nk (P := P) (w := w) (d := d) (o := od) (M := L.map enP)) (fun i H' => Same (upd H6 d (.frz od (DicN P w d (L.map enP)))) H' ∧ H' D = some (.lst [])) ⟨Same.new _ hD, upd_same⟩ (fun i H' _ q => q.1 _ _ upd_same) ?_ ?_⟩
                · rintro i x H7 H8 hi ⟨s7, hD7⟩ ⟨rfl, e', he', rfl⟩
                  rw [List.getElem?_map] at he'
                  obtain ⟨e, he, rfl⟩ := Option.map_eq_some_iff.mp he'
                  have em := List.mem_of_getElem? he
                  have hs : hasP S e.1 = true := by
                    rw [has_strip pm]
                    exact List.any_eq_true.mpr ⟨e, em, decide_eq_true rfl⟩
                  have hs' : (!hasP S e.1) = false := by rw [hs]; rfl
                  exact ⟨rfl, _, rfl, _, rfl, p, dx, _, rfl, s7 _ _ epL, p, S, _, rfl, hwL.same s7, .inr ⟨e.2.1, e.1, rfl, (ksL e em).same s7, g.wf.pro e em, fun H9 s9 => ⟨_, rfl, _, rfl, _, rfl, if_neg_of hs' ⟨Same.tr s7 s9, s9 _ _ hD7⟩⟩⟩⟩
                · rintro H7 ⟨s7, hD7⟩
                  obtain ⟨nd, hDn⟩ := locked hd6.1 hD
                  have us := unlocked hd6.1 s7
                  refine ⟨s7 _ _ upd_same, Nat.zero_le _, fun m hm => ?_⟩
                  have sm : Same (upd H7 d (DicN P w d (L.map enP))) (upd (upd H7 d (DicN P w d (L.map enP))) m (.lst [])) := Same.new _ hm
                  have hD8 : (upd H7 d (DicN P w d (L.map enP))) D = some (.lst []) := by rw [upd_ne nd]; exact hD7
                  refine ⟨.list [], .list [], .lst (SqL.of (sm _ _ hD8)) .nil, .lst (SqL.of upd_same) .nil, lst0_shaped, lst0_shaped, ?_⟩
                  have s68 := Same.tr us sm
                  generalize upd (upd H7 d (DicN P w d (L.map enP))) m (.lst []) = H8 at s68 ⊢
                  refine ⟨true, rfl, if_pos_of rfl ?_⟩
                  have ho8 := s68 _ _ ho
                  refine ⟨_, rfl, o, rfl, ⟨_, SqL.of ho8⟩, fun D2 hD2 => lc_it (walk_list (K := K) (a := o) (xs := vals)) (fun i H' => Same H8 H' ∧ H' D2 = some (.lst [])) ⟨Same.new _ hD2, upd_same⟩ (fun i H' _ q => SqL.of (q.1 _ _ ho8)) ?_ ?_⟩
                  · rintro i x H9 H10 hi ⟨s9, hD9⟩ ⟨rfl, hx⟩
                    have vm := List.mem_of_getElem? hx
                    have s09 := Same.tr s06 (Same.tr s68 s9)
                    refine ⟨rfl, _, rfl, _, rfl, p, dx, _, rfl, s09 _ _ ep, p, S, x, rfl, hw.same s09, ?_⟩
                    rcases hv x vm _ (Same.tr s68 s9) with b | ⟨a, q, rfl, h1, h2, h3⟩
                    · exact .inl ⟨b, fun H11 s11 => ⟨_, rfl, _, rfl, if_neg_of rfl ⟨Same.tr s9 s11, s11 _ _ hD9⟩⟩⟩
                    · exact .inr ⟨a, q, rfl, h1, h2, fun H11 s11 => ⟨_, rfl, _, rfl, if_neg_of h3 ⟨Same.tr s9 s11, s11 _ _ hD9⟩⟩⟩
                  · rintro H9 ⟨s9, hD9⟩
                    refine ⟨Nat.zero_le _, fun m2 hm2 => ?_⟩
                    have sm2 : Same H9 (upd H9 m2 (.lst [])) := Same.new _ hm2
                    exact ⟨.list [], .list [], .lst (SqL.of (sm2 _ _ hD9)) .nil, .lst (SqL.of upd_same) .nil, lst0_shaped, lst0_shaped, k _ (Same.tr s06 (Same.tr s68 (Same.tr s9 sm2)))⟩
end
end K0

/-! ## F26 -/
set_option maxRecDepth 100000
set_option maxHeartbeats 2000000
namespace K0
open PySem L2 NS ND RZ
/-! ### equal parts -/
theorem perm_sub {α : Type} [DecidableEq α] : ∀ {l m : List α}, l.Nodup → (∀ x ∈ l, x ∈ m) → l.length = m.length → l.Perm m
  | [], m, _, _, h => by
    have : m = [] := List.length_eq_zero_iff.mp h.symm
    rw [this]
  | a :: l, m, nd, h, len => by
    have z := List.nodup_cons.mp nd
    have am : a ∈ m := h a List.mem_cons_self
    have le := List.length_erase_of_mem am
    rw [List.length_cons] at len
    have r := perm_sub (m := m.erase a) z.2 (fun x hx => (List.mem_erase_of_ne fun e : x = a => z.1 (e ▸ hx)).mpr (h x (List.mem_cons_of_mem _ hx))) (by omega)
    exact (r.cons a).trans (List.perm_cons_erase am).symm
theorem strips_nd {L : Po} (h : (L.map fun e => e.1).Nodup) : (L.map strip).Nodup := by
  have e : (L.map strip).map (fun x => x.1) = L.map fun e => e.1 := by rw [List.map_map]; rfl
  rw [← e] at h
  exact (List.pairwise_map.mp h).imp fun {a b} n z => n (by rw [z])
theorem has_en {L : Po} (w : WfL L) (e : Pr × Addr × Int) : hasN (L.map enP) (enP e) = true ↔ strip e ∈ L.map strip := by
  constructor
  · intro h
    unfold hasN at h
    cases z : valN (L.map enP) (enP e).1 with
    | none => rw [z] at h; cases h
    | some y =>
      rw [z] at h
      have n : numN (enP e).2.2 = numN y := of_decide_eq_true h
      have km : (enP e).1 ∈ (L.map enP).map (·.1) := valN_some.mp (by rw [z]; rfl)
      obtain ⟨u', hu', ku⟩ := List.mem_map.mp km
      obtain ⟨u, hu, rfl⟩ := List.mem_map.mp hu'
      have vu := valN_mem w.keys (e := enP u) hu'
      rw [ku, z] at vu
      have yu : y = .int u.2.2 := Option.some.inj vu
      rw [yu] at n
      have n' : e.2.2 = u.2.2 := n
      have k' : u.1 = e.1 := kP_inj ku
      exact List.mem_map.mpr ⟨u, hu, Prod.ext k' n'.symm⟩
  · intro h
    obtain ⟨u, hu, q⟩ := List.mem_map.mp h
    obtain ⟨q1, q2⟩ := Prod.mk.inj q
    have vu := valN_mem w.keys (e := enP u) (List.mem_map.mpr ⟨u, hu, rfl⟩)
    have ku : (enP e).1 = (enP u).1 := by
      show kP e.1 = kP u.1
      rw [q1]
    unfold hasN
    rw [ku, vu]
    exact decide_eq_true (q2.symm : e.2.2 = u.2.2)
/-- two whences or two dicts are equal just if they hold the same products with the same numbers -/
theorem eqPo_iff {S T : Po} (ws : WfL S) (wt : WfL T) : eqPo S T = true ↔ (S.map strip).Perm (T.map strip) := by
  unfold eqPo sameN
  rw [Bool.and_eq_true, beq_iff_eq, List.length_map, List.length_map, List.all_eq_true]
  constructor
  · rintro ⟨len, all⟩
    refine perm_sub (strips_nd ws.one) (fun x hx => ?_) (by rw [List.length_map, List.length_map]; exact len)
    obtain ⟨e, he, rfl⟩ := List.mem_map.mp hx
    exact (has_en wt e).mp (all _ (List.mem_map.mpr ⟨e, he, rfl⟩))
  · intro p
    have len := p.length_eq
    rw [List.length_map, List.length_map] at len
    refine ⟨len, fun x hx => ?_⟩
    obtain ⟨e, he, rfl⟩ := List.mem_map.mp hx
    exact (has_en wt e).mpr (p.mem_iff.mp (List.mem_map.mpr ⟨e, he, rfl⟩))
/-- the order and the addresses do not matter -/
theorem eqPo_alike {S T S' T' : Po} (ws : WfL S) (wt : WfL T) (ws' : WfL S') (wt' : WfL T') (ps : (S.map strip).Perm (S'.map strip)) (pt : (T.map strip).Perm (T'.map strip)) : eqPo S T = eqPo S' T' := by
  refine Bool.eq_iff_iff.mpr ?_
  rw [eqPo_iff ws wt, eqPo_iff ws' wt']
  exact ⟨fun h => (ps.symm.trans h).trans pt, fun h => (ps.trans h).trans pt.symm⟩
end K0

/-! ## F27 -/
set_option maxRecDepth 100000
set_option maxHeartbeats 2000000
namespace K0
open PySem PySem.Spec PyProof.Rows L2 NS ND
/-! ### a whence != such a dict -/
def rNeOwnN (P : Program) (w : World) (K : PySem.W.Frag) (C : Addr) (sp : Sp) (E : XK) : R2 := fun x y H Q => ∃ a dx fs d M, x = .ref a ∧ H a = some (.ins C dx fs) ∧ y = .ref d ∧ Rd H d (DicN P w d M) ∧ PySem.W.notFirst K C (.type "dict") = true ∧
  sp [x, y] H (fun v H' => ∃ c, v = .bl c ∧ Q (.bl (!c)) H') E
section
variable {X : Cx} {CX : CXT} {n : Nat} {C g : Addr} {sp : Sp} {E : XK}
theorem op_neOwnN (hm : PySem.W.mroIn X.K C (.type "object") = some true) (hne : PySem.W.findIn X.K (.ref C) "__ne__" = some (some (.builtin "object.__ne__"))) (hs : PySem.W.findIn X.K (.ref C) "__eq__" = some (some (.ref g))) (hf : PySem.W.isFn X.K (.ref g) = true) (F : FnR X.prog X.w X.K X.mg X.base CX n g sp)
    (hr : Room (n + 1) X.A) (hx : Passes CX X E) : OpR X (compareOp .NotEq) (rNeOwnN X.prog X.w X.K C sp E) := by
  intro pins s σ H x y v u Q I rx ry h
  obtain ⟨a, dx, fs, d, M, rfl, ha, rfl, hd, hn, q⟩ := h
  cases (show v = Value.ref a from rx)
  cases (show u = Value.ref d from ry)
  obtain ⟨mA, J, _⟩ := ins_get I.hok ha
  obtain ⟨od, J, _⟩ := J.look
  obtain ⟨_, _, o, es, ep, ho, hxd, _⟩ := rdN I hd
  have lk : PySem.W.Looks (model X.prog X.w) s.heap (typeOf (.ref d)) (.type "dict") := by
    rw [← hxd.1]
    exact (PySem.W.Looks.ld (part := none) ho).andThen .now
  show wpAny _ _ (richCompare .NotEq (.ref a) (.ref d)) _ _ _
  refine ne_K (by have := hr.units; omega) I.kIn J lk hn hm hne hs hf ?_
  refine wpAny_mono (wpAny_call (SlX.run_at (us := [.ref a, .ref d]) (ws := [.ref a, .ref d]) F hr.in1 I.env0.in1 hx I (.cons rfl (.cons rfl .nil)) q)) (fun w s' z => ?_) fun _ _ x => x
  obtain ⟨z', H', I', rz, c, rfl, qz⟩ := z
  cases (show w = Value.bool c from rz)
  exact ⟨c, rfl, .bl _, H', I', rfl, qz⟩
end
/-- == and != of whences -/
structure QE (P : Program) (w : World) (K : PySem.W.Frag) (mg : Str → Option Value) (base : Heap) (C : Addr) : Prop extends QW P w K mg base C where
  ne : PySem.W.findIn K (.ref C) "__ne__" = some (some (.builtin "object.__ne__"))
  obj : PySem.W.mroIn K C (.type "object") = some true
  nfC : PySem.W.notFirst K C (.ref C) = true
  nfD : PySem.W.notFirst K C (.type "dict") = true
  nfN : PySem.W.notFirst K C (.type "NoneType") = true
section
variable {X : Cx} {C : Addr}
theorem op_ne1 (Z : QE X.prog X.w X.K X.mg X.base C) (hr : Room 2 X.A) : OpR X (compareOp .NotEq) (rNeOwn X.K C (spWEq X.prog X.w X.K C) eN) := by
  obtain ⟨g, h1, h2, F⟩ := Z.eq.ex
  exact op_neOwn Z.obj Z.ne h1 h2 F hr pass0
theorem op_neN1 (Z : QE X.prog X.w X.K X.mg X.base C) (hr : Room 2 X.A) : OpR X (compareOp .NotEq) (rNeOwnN X.prog X.w X.K C (spWEq X.prog X.w X.K C) eN) := by
  obtain ⟨g, h1, h2, F⟩ := Z.eq.ex
  exact op_neOwnN Z.obj Z.ne h1 h2 F hr pass0
theorem op_eq1 (Z : QE X.prog X.w X.K X.mg X.base C) (hr : Room 1 X.A) : OpR X (compareOp .Eq) (rEqOwn X.K C (spWEq X.prog X.w X.K C) eN) := by
  obtain ⟨g, h1, h2, F⟩ := Z.eq.ex
  exact op_eqOwn h1 h2 F hr pass0
end
end K0

/-! ## F28 -/
set_option maxRecDepth 100000
set_option maxHeartbeats 2000000
namespace K0
open PySem L2 NS ND RZ
/-! ### _law_right -/
theorem PoA.notDice {P : Program} {w : World} {H : Hp} {d p : Addr} {L : Po} (h : PoA P w H d L) (hp : DiceAt H p) : d ≠ p := fun z => by
  obtain ⟨x, y, v, e⟩ := hp
  have y := h.1
  rw [z, e] at y
  cases y
theorem PoA.roll {P : Program} {w : World} {H H' : Hp} {d p : Addr} {L : Po} (h : PoA P w H d L) (hp : DiceAt H p) (k : Kd p H H') : PoA P w H' d L := ⟨k _ _ (h.notDice hp) h.1, h.2.kd hp.ne k⟩
def zA (z : Addr × (Pr × Addr × Int)) : Addr := z.1
def zE (z : Addr × (Pr × Addr × Int)) : Pr × Addr × Int := z.2
theorem zip_refs : ∀ {ts : List Addr} {L : Po}, ts.length = L.length → (ts.zip L).map (fun z => V.ref z.1) = ts.map V.ref ∧ (ts.zip L).map (zE) = L
  | [], [], _ => ⟨rfl, rfl⟩
  | [], _ :: _, h => by cases h
  | _ :: _, [], h => by cases h
  | t :: ts, e :: L, h => by
    obtain ⟨h1, h2⟩ := zip_refs (ts := ts) (L := L) (Nat.succ.inj h)
    exact ⟨by rw [List.zip_cons_cons, List.map_cons, List.map_cons, h1], by rw [List.zip_cons_cons, List.map_cons, h2]; rfl⟩
theorem zip_pairs {H : Hp} : ∀ {ts : List Addr} {L : Po}, Paired (fun (t : Addr) (e : V × V) => H t = some (.tup [e.1, e.2])) ts ((L.map enP).map pairN) → ∀ z ∈ ts.zip L, H z.1 = some (.tup [.ref z.2.2.1, .int z.2.2.2])
  | [], _, _, z, hz => by
    rw [List.zip_nil_left] at hz
    cases hz
  | t :: ts, [], h, _, _ => by cases h
  | t :: ts, e :: L, .cons a r, z, hz => by
    rw [List.zip_cons_cons] at hz
    rcases List.mem_cons.mp hz with rfl | hz
    · exact a
    · exact zip_pairs r z hz
theorem make_read {P : Program} {w : World} {C d : Addr} {L : Po} {H : Hp} {Q : VK} {E : XK} (hd : PoA P w H d L) (wf : WfL L) (h : ∀ x dp S H', Same H H' → H x = none → H dp = none → S.Perm L → WhA P w C H' x dp S → Q (.ref x) H') :
    ∀ x dx, H x = none → H dx = none → dx ≠ x → spInit P w C (.ref x :: ([V.ref d] ++ [])) (upd (upd H dx (.own x)) x (.ins C dx [])) (fun v H2 => v = .non ∧ Q (.ref x) H2) E := fun x dx hx hdx ne => by
  have s1 : Same H (upd H dx (.own x)) := Same.new _ hdx
  have s2 : Same (upd H dx (.own x)) (upd (upd H dx (.own x)) x (.ins C dx [])) := Same.new _ (by rw [upd_ne (Ne.symm ne)]; exact hx)
  have s12 := Same.tr s1 s2
  refine ⟨x, dx, d, L, rfl, upd_same, hd.same s12, wf, fun H' S dp pS hdp wa keep => ⟨rfl, h x dp S H' (fun c o e => ?_) hx ?_ pS wa⟩⟩
  · exact keep c o (ne_of_none e hx) (s12 _ _ e)
  · cases e : H dp with
    | none => rfl
    | some o => rw [s12 _ _ e] at hdp; cases hdp
theorem mk_read {P : Program} {w : World} {C d : Addr} {L : Po} {H : Hp} {Q : VK} {E : XK} {i : Nat} {σ : L2.St} (hσ : σ[i]? = some (some (V.ref d))) (hd : PoA P w H d L) (wf : WfL L) (h : ∀ x dp S H', Same H H' → H x = none → H dp = none → S.Perm L → WhA P w C H' x dp S → Q (.ref x) H') :
    tMake C (spInit P w C) [] E (tCons (tVar i) tNil) σ H Q := ⟨_, hσ, make_read hd wf h⟩
theorem WhA.dict {P : Program} {w : World} {C : Addr} {H : Hp} {p dp dq : Addr} {S T : Po} (h : WhA P w C H p dp S) (h2 : WhA P w C H p dq T) : dq = dp := by
  obtain ⟨⟨dx, e⟩, _⟩ := h
  obtain ⟨⟨dx2, e2⟩, _⟩ := h2
  rw [e] at e2
  injection e2 with e2
  injection e2 with _ _ e3
  injection e3 with e3 _
  injection e3 with _ e3
  injection e3 with e3
  exact e3.symm
abbrev sRight : Stmt := top 39
def spRight : Sp := fun vs H Q _ => ∃ p : Addr, vs = [.ref p] ∧ DiceAt H p ∧ ∀ H', Kd p H H' → DiceAt H' p → Q (.bl true) H'
structure LR (P : Program) (w : World) (K : PySem.W.Frag) (mg : Str → Option Value) (base : Heap) (C : Addr) : Prop where
  Z : QE P w K mg base C
  B : TS K mg
  dct : mg "dict" = none
  gW : mg "Whence" = some (.ref C)
  pol : ∃ f fd, Glo K mg "_law_polynomial" f ∧ FnOk P w K mg base CX0 3 f fd ["_law_dice_here"] (spPoly P w) ∧ Binds K fd ["_law_dice_here"] []
  mix : ∃ f fd, Glo K mg "_law_mixed" f ∧ FnOk P w K mg base CX0 2 f fd ["_law_dice_here", "_law_items"] spMixed ∧ Binds K fd ["_law_dice_here", "_law_items"] []
  tld : ∃ f fd, Glo K mg "_law_told_right" f ∧ FnOk P w K mg base CX0 8 f fd ["_law_whence", "_law_parts"] (spToldR P w K C) ∧ Binds K fd ["_law_whence", "_law_parts"] []
  mkr : ∃ f fd, Mk K C f ∧ FnOk P w K mg base CX0 8 f fd ["self", "parts"] (spInit P w C) ∧ Binds K fd ["self", "parts"] []
section
variable {P : Program} {w : World} {K : PySem.W.Frag} {mg : Str → Option Value} {base : Heap} {C : Addr}
abbrev nRight : List Str := ["_law_dice_here", "_law_parts", "_law_other", "_law_mixed_here", "_law_whence", "_law_same", "_law_near", "_law_told"]
theorem scRight : FnScope nRight ["_law_dice_here"] (defScope sRight) := ⟨rfl, rfl, rfl, by decide +kernel, rfl, by decide +kernel, by decide +kernel⟩
theorem ok_right {f : Addr} {fd : FuncData} (F : Fun K "_law_right" "_law_right" sRight f fd) (L : LR P w K mg base C) : FnOk P w K mg base CX0 10 f fd ["_law_dice_here"] spRight := by
  obtain ⟨fP, fdP, eP, GP, bP⟩ := L.pol
  obtain ⟨fM, fdM, eM, GM, bM⟩ := L.mix
  obtain ⟨fT, fdT, eT, GT, bT⟩ := L.tld
  obtain ⟨fI, fdI, M, GI, bI⟩ := L.mkr
  refine F.ok scRight (fun vs H Q E h => ?_) (fun cdv A outer s H vs Q E hr h => ?_)
  · obtain ⟨p, rfl, _⟩ := h
    rfl
  · obtain ⟨p, rfl, hp, k⟩ := h
    have hr1 : Room 1 _ := hr.mono (by decide)
    have hr2 : Room 2 _ := hr.mono (by decide)
    have hr3 : Room 3 _ := hr.mono (by decide)
    have hr8 : Room 8 _ := hr.mono (by decide)
    refine ⟨_, C8.pss_cut (ps_par (i := 1) (j := 2) rfl scRight.nd rfl rfl (by decide) rfl rfl (pa_cons (pe_call (E := E0) GP hr3 (by rfl) eP.g eP.k bP .nil pass0 (pa_cons (pv 0) pa_nil)) (pa_cons (pe_call (E := E0) GP hr3 (by rfl) eP.g eP.k bP .nil pass0 (pa_cons (pv 0) pa_nil)) pa_nil)) rfl)
      (C8.pss_cut (ps_set (i := 3) scRight.nd rfl (Or.inl rfl) (pe_callTy (T := "dict") (cr_nof rfl hr.units) (by rfl) L.dct (by decide +kernel) (pa_cons (pe_call (E := E0) GM hr2 (by rfl) eM.g eM.k bM .nil pass0 (pa_cons (pv 0)
          (pa_cons (pe_callTy (T := "list") (cr_nlistP rfl) (by rfl) L.B.lst (by decide +kernel) (pa_cons (pe_nm0 PySem.F.slot_dict_items PySem.F.type_dict_items mt_nitems (pv 1)) pa_nil)) pa_nil))) pa_nil)))
      (C8.pss_cut (ps_par3 (i := 4) (j := 5) (l := 6) rfl scRight.nd rfl rfl rfl (by decide) (by decide) (by decide) rfl rfl rfl (pa_cons (pe_make (E := E0) M GI hr (by rfl) L.gW bI .nil pass0 (pa_cons (pv 3) pa_nil)) (pa_cons (pe_make (E := E0) M GI hr (by rfl) L.gW bI .nil pass0 (pa_cons (pv 1) pa_nil)) (pa_cons (pe_make (E := E0) M GI hr (by rfl) L.gW bI .nil pass0 (pa_cons (pv 2) pa_nil)) pa_nil))) rfl)
      (C8.pss_cut (ps_if (PW.pt (pw_or (pt_not (pt_val (pe_call (E := E0) GT hr8 (by rfl) eT.g eT.k bT .nil pass0 (pa_cons (pv 4) (pa_cons (pv 1) pa_nil))))) (pw_or1 (pt_not (pt_val (pe_call (E := E0) GT hr8 (by rfl) eT.g eT.k bT .nil pass0 (pa_cons (pv 6) (pa_cons (pv 2) pa_nil)))))))) (pss_one (ps_ret pe_bl)) pss_nil)
      (C8.pss_cut (ps_if (PW.pt (pw_or (pt_cmpR (op_ne1 L.Z hr2) (pv 4) (pv 5) (nomark _)) (pw_or (pt_cmpR op_ne (pe_cmpR (op_eq1 L.Z hr1) (pv 4) (pv 6) (nomark _)) (pe_cmpR (op_neqN (u9 hr)) (pv 1) (pv 2) (nomark _)) (nomark _))
            (pw_or1 (pt_cmpR op_ne (pe_cmpR (op_ne1 L.Z hr2) (pv 4) (pv 6) (nomark _)) (pe_cmpR (op_nneN (u9 hr)) (pv 1) (pv 2) (nomark _)) (nomark _)))))) (pss_one (ps_ret pe_bl)) pss_nil)
      (C8.pss_cut (ps_set (i := 7) scRight.nd rfl (Or.inl rfl) (pe_gtr L.Z.par L.Z.T.cl hr2 (pv 4)))
      (C8.pss_cut (ps_expr (pe_nm0 PySem.F.slot_dict_clear PySem.F.type_dict_clear mt_nclear (pv 7)))
      (C8.pss_cut (ps_expr (pe_nm0 PySem.F.slot_dict_clear PySem.F.type_dict_clear mt_nclear (pv 3)))
      (pss_one (ps_ret (pe_and (pe_call (E := E0) GT hr8 (by rfl) eT.g eT.k bT .nil pass0 (pa_cons (pv 4) (pa_cons (pv 1) pa_nil))) (pe_and (pe_cmpR (op_neN1 L.Z hr2) (pv 4) (pv 1) (nomark _)) (pe_one (pe_not (pe_cmpR (op_eq1 L.Z hr1) (pv 4) pe_non (nomark _))))))))))))))), ?_⟩
    refine ⟨fun σ H1 => ∃ d1 d2 L1 L2, σ = [some (.ref p), some (.ref d1), some (.ref d2), none, none, none, none, none] ∧ Kd p H H1 ∧ DiceAt H1 p ∧ PoA P w H1 d1 L1 ∧ GoodL L1 ∧ PoA P w H1 d2 L2 ∧ GoodL L2 ∧ d1 ≠ d2, ?_, ?_⟩
    · refine ⟨_, rfl, p, rfl, hp, fun H1 d1 L1 kd1 n1 dc1 pa1 g1 => ⟨_, rfl, p, rfl, dc1, fun H2 d2 L2 kd2 n2 dc2 pa2 g2 => ⟨_, _, rfl, d1, d2, L1, L2, rfl, kd1.tr kd2, dc2, pa1.roll dc1 kd2, g1, pa2, g2, fun z => ?_⟩⟩⟩
      have y := pa1.1
      rw [z, n2] at y
      cases y
    · rintro σ1 H1 ⟨d1, d2, L1, L2, rfl, kd1, dc1, pa1, g1, pa2, g2, n12⟩
      refine ⟨fun σ H2 => ∃ d3 L3, σ = [some (.ref p), some (.ref d1), some (.ref d2), some (.ref d3), none, none, none, none] ∧ Kd p H H2 ∧ DiceAt H2 p ∧ PoA P w H2 d1 L1 ∧ PoA P w H2 d2 L2 ∧ PoA P w H2 d3 L3 ∧ WfL L3 ∧ (L3.map strip).Perm (L1.map strip) ∧ d3 ≠ d1 ∧ d3 ≠ d2 ∧ H d3 = none, ?_, ?_⟩
      · refine ⟨_, rfl, _, rfl, ⟨d1, _, rfl, .inl pa1.1⟩, d1, _, rfl, rfl, .inl pa1.1, fun q hq => ?_⟩
        have sq : Same H1 (upd H1 q (DX.itemsO q d1)) := Same.new _ hq
        refine ⟨q, d1, _, rfl, upd_same, .inl (pa1.same sq).1, fun H4 a4 ts4 s4 hn4 h4 pr4 => ?_⟩
        have s14 : Same H1 H4 := Same.tr sq s4
        have dc4 := dc1.on s14
        have few := g1.few
        have len4 : ts4.length = L1.length := by
          have z := Paired.length pr4
          rw [List.length_map, List.length_map] at z
          exact z
        refine ⟨p, a4, _, rfl, dc4, (dc1.on sq).off hn4, h4, by rw [List.length_map]; omega, fun ys l H5 pm hl5 h5 kd5 dc5 => ?_⟩
        obtain ⟨zr1, zr2⟩ := zip_refs (ts := ts4) (L := L1) len4
        rw [← zr1] at pm
        obtain ⟨Z, pz, ez⟩ := perm_lift (fun z : Addr × (Pr × Addr × Int) => V.ref z.1) pm (ts4.zip L1) rfl
        have pL : (Z.map zE).Perm L1 := by
          have y := pz.map zE
          rw [zr2] at y
          exact y
        have w3 := g1.wf.perm pL
        have kd15 : Kd p H1 H5 := (Kd.of s14).tr kd5
        have pa15 := pa1.roll dc1 kd15
        have pa25 := pa2.roll dc1 kd15
        have k3 : Ks H5 (Z.map zE) := pa15.2.perm pL
        have e5 : ys = (Z.map zA).map V.ref := by
          rw [← ez, List.map_map]
          rfl
        have np4 := dc4.ne
        have each : ∀ z ∈ Z, H5 z.1 = some (.tup [.ref z.2.2.1, .int z.2.2.2]) := fun z hz => by
          have y := zip_pairs pr4 z (pz.mem_iff.mp hz)
          exact kd5 _ _ (fun q => np4 _ (q ▸ y)) y
        have prd : ∀ Z' : List (Addr × (Pr × Addr × Int)), (∀ z ∈ Z', H5 z.1 = some (.tup [.ref z.2.2.1, .int z.2.2.2])) → Paired (fun (t : Addr) (e : En) => SqT K H5 t [.ref e.2.1, e.2.2]) (Z'.map zA) ((Z'.map zE).map enP) := fun Z' => by
          induction Z' with
          | nil => exact fun _ => .nil
          | cons z Z' ih => exact fun h => .cons (SqT.of (h z List.mem_cons_self)) (ih fun y hy => h y (List.mem_cons_of_mem _ hy))
        refine ⟨l, Z.map zA, (Z.map zE).map enP, rfl, SqL.of (by rw [h5, e5]), prd Z each, k3.keyed, w3.keys, fun d3 hd3 => ?_⟩
        have s5 : Same H5 (upd H5 d3 (DicN P w d3 ((Z.map zE).map enP))) := Same.new _ hd3
        refine ⟨d3, Z.map zE, rfl, (kd1.tr kd15).tr (Kd.of s5), dc5.on s5, pa15.same s5, pa25.same s5, ⟨upd_same, k3.same s5⟩, w3, pL.map strip, fun z => ?_, fun z => ?_, none_kd dc5 (kd1.tr kd15) hd3⟩
        · rw [z, pa15.1] at hd3
          cases hd3
        · rw [z, pa25.1] at hd3
          cases hd3
      · rintro σ2 H2 ⟨d3, L3, rfl, kd2, dc2, pb1, pb2, pb3, w3, pm3, n31, n32, nd3⟩
        refine ⟨fun σ H3 => ∃ x1 x2 x3 e1 e2 e3 S1 S2 S3, σ = [some (.ref p), some (.ref d1), some (.ref d2), some (.ref d3), some (.ref x1), some (.ref x2), some (.ref x3), none] ∧ Same H2 H3 ∧
          WhA P w C H3 x1 e1 S1 ∧ WhA P w C H3 x2 e2 S2 ∧ WhA P w C H3 x3 e3 S3 ∧ S1.Perm L3 ∧ S2.Perm L1 ∧ S3.Perm L2 ∧ H2 e1 = none ∧ H2 e2 = none ∧ H2 e3 = none ∧ H2 x1 = none, ?_, ?_⟩
        · dsimp only [tPar3]
          refine c0 (mk_read (i := 3) rfl pb3 w3 fun x1 e1 S1 Ha sa hx1 he1 pS1 wa1 => ?_)
          refine c0 (mk_read (i := 1) rfl (pb1.same sa) g1.wf fun x2 e2 S2 Hb sb hx2 he2 pS2 wa2 => ?_)
          refine c0 (mk_read (i := 2) rfl (pb2.same (Same.tr sa sb)) g2.wf fun x3 e3 S3 Hc sc hx3 he3 pS3 wa3 => ?_)
          refine ⟨_, _, _, rfl, x1, x2, x3, e1, e2, e3, S1, S2, S3, rfl, Same.tr sa (Same.tr sb sc), wa1.same (Same.tr sb sc), wa2.same sc, wa3, pS1, pS2, pS3, he1, ?_, ?_, hx1⟩
          · cases e : H2 e2 with
            | none => rfl
            | some o => rw [sa _ _ e] at he2; cases he2
          · cases e : H2 e3 with
            | none => rfl
            | some o => rw [(Same.tr sa sb) _ _ e] at he3; cases he3
        · rintro σ3 H3 ⟨x1, x2, x3, e1, e2, e3, S1, S2, S3, rfl, s3, wa1, wa2, wa3, pS1, pS2, pS3, he1, he2, he3, hx1⟩
          have pm1 : (S1.map strip).Perm (L1.map strip) := (pS1.map strip).trans pm3
          have pm2 : (S3.map strip).Perm (L2.map strip) := pS3.map strip
          refine ⟨fun σ H4 => σ = [some (.ref p), some (.ref d1), some (.ref d2), some (.ref d3), some (.ref x1), some (.ref x2), some (.ref x3), none] ∧ Same H2 H4 ∧ Same H3 H4, ?_, ?_⟩
          · refine ⟨_, rfl, _, rfl, x1, d1, S1, L1, rfl, ⟨e1, wa1⟩, fun dq wq => ?_, pb1.same s3, g1, pm1, fun Ha sa => ⟨_, rfl, if_neg_of rfl ?_⟩⟩
            · rw [wa1.dict wq]
              exact (ne_of_none pb1.1 he1).symm
            refine ⟨_, rfl, _, rfl, x3, d2, S3, L2, rfl, ⟨e3, wa3.same sa⟩, fun dq wq => ?_, pb2.same (Same.tr s3 sa), g2, pm2, fun Hb sb => ⟨_, rfl, if_neg_of rfl ⟨rfl, Same.tr s3 (Same.tr sa sb), Same.tr sa sb⟩⟩⟩
            rw [(wa3.same sa).dict wq]
            exact (ne_of_none pb2.1 he3).symm
          · rintro σ4 H4 ⟨rfl, s24, s34⟩
            have ws1 : WfL S1 := wa1.2.2.2
            have ws2 : WfL S2 := wa2.2.2.2
            have ws3 : WfL S3 := wa3.2.2.2
            have va1 := wa1.same s34
            have va2 := wa2.same s34
            have va3 := wa3.same s34
            have qb1 := pb1.same s24
            have qb2 := pb2.same s24
            obtain ⟨x1d, ep1⟩ := va1.1
            obtain ⟨x2d, ep2⟩ := va2.1
            obtain ⟨x3d, ep3⟩ := va3.1
            have h12 : eqPo S1 S2 = true := (eqPo_iff ws1 ws2).mpr (pm1.trans (pS2.map strip).symm)
            have h13 : eqPo S1 S3 = sameN (L1.map enP) (L2.map enP) := eqPo_alike ws1 ws3 g1.wf g2.wf pm1 pm2
            have e12 : (!eqPo S1 S2) = false := by rw [h12]; rfl
            have e13 : (!decide (V.bl (eqPo S1 S3) = V.bl (sameN (L1.map enP) (L2.map enP)))) = false := by rw [h13, decide_eq_true rfl]; rfl
            have e13' : (!decide (V.bl (!eqPo S1 S3) = V.bl (!sameN (L1.map enP) (L2.map enP)))) = false := by rw [h13, decide_eq_true rfl]; rfl
            refine ⟨fun σ H' => σ = [some (.ref p), some (.ref d1), some (.ref d2), some (.ref d3), some (.ref x1), some (.ref x2), some (.ref x3), none] ∧ H' = H4, ?_, ?_⟩
            · refine ⟨_, rfl, _, rfl, x1, x1d, _, _, rfl, ep1, .ins ep2, L.Z.nfC, x1, S1, _, rfl, ⟨e1, va1⟩, .inl ⟨x2, S2, rfl, ⟨e2, va2⟩, _, rfl, _, rfl, if_neg_of e12 ?_⟩⟩
              refine ⟨_, rfl, _, rfl, x1, x1d, _, _, rfl, ep1, .ins ep3, L.Z.nfC, x1, S1, _, rfl, ⟨e1, va1⟩, .inl ⟨x3, S3, rfl, ⟨e3, va3⟩, _, rfl, _, rfl, d1, d2, _, _, rfl, rfl, .inl qb1.1, .inl qb2.1, qb1.2.keyed, qb2.2.keyed, nums_of L1, nums_of L2, rfl, _, rfl, if_neg_of e13 ?_⟩⟩
              exact ⟨_, rfl, _, rfl, x1, x1d, _, _, rfl, ep1, .ins ep3, L.Z.nfC, x1, S1, _, rfl, ⟨e1, va1⟩, .inl ⟨x3, S3, rfl, ⟨e3, va3⟩, _, rfl, _, rfl, _, rfl, d1, d2, _, _, rfl, rfl, .inl qb1.1, .inl qb2.1, qb1.2.keyed, qb2.2.keyed, nums_of L1, nums_of L2, rfl, _, rfl, if_neg_of e13' ⟨rfl, rfl⟩⟩⟩
            · rintro σ5 H5 ⟨rfl, rfl⟩
              refine ⟨fun σ H' => ∃ d7, σ = [some (.ref p), some (.ref d1), some (.ref d2), some (.ref d3), some (.ref x1), some (.ref x2), some (.ref x3), some (.ref d7)] ∧ Same H5 H' ∧ H5 d7 = none ∧ PoA P w H' d7 S1, ?_, ?_⟩
              · exact ⟨_, rfl, x1, x1d, _, rfl, ep1, x1, S1, rfl, ⟨e1, va1⟩, fun H6 d7 s6 hn6 hp6 => ⟨d7, rfl, s6, hn6, hp6⟩⟩
              · rintro σ6 H6 ⟨d7, rfl, s56, hn7, hp7⟩
                refine ⟨fun σ H' => σ = [some (.ref p), some (.ref d1), some (.ref d2), some (.ref d3), some (.ref x1), some (.ref x2), some (.ref x3), some (.ref d7)] ∧ Same H5 H', ?_, ?_⟩
                · refine ⟨_, rfl, ⟨d7, _, rfl, .inl hp7.1⟩, d7, _, rfl, rfl, hp7.1, rfl, fun c o e => ?_⟩
                  rw [upd_ne (ne_of_none e hn7)]
                  exact s56 _ _ e
                · rintro σ7 H7 ⟨rfl, s57⟩
                  have pb37 := pb3.same (Same.tr s24 s57)
                  refine ⟨fun σ H' => σ = [some (.ref p), some (.ref d1), some (.ref d2), some (.ref d3), some (.ref x1), some (.ref x2), some (.ref x3), some (.ref d7)] ∧ H' = upd H7 d3 (DicN P w d3 []), ?_, ?_⟩
                  · exact ⟨_, rfl, ⟨d3, _, rfl, .inl pb37.1⟩, d3, _, rfl, rfl, pb37.1, rfl, rfl⟩
                  · rintro σ8 H8 ⟨rfl, rfl⟩
                    have ya1 := va1.same s57
                    have yb1 := qb1.same s57
                    have nt : ∀ xs, H7 d3 ≠ some (.tup xs) := po_ne pb37
                    have nx : x1 ≠ d3 := fun z => by rw [z, pb3.1] at hx1; cases hx1
                    have ne1 : e1 ≠ d3 := fun z => by rw [z, pb3.1] at he1; cases he1
                    have np3 : d3 ≠ p := pb3.notDice dc2
                    have ep8 : (upd H7 d3 (DicN P w d3 [])) x1 = some (.ins C x1d [("_parts", .ref e1)]) := by rw [upd_ne nx]; exact s57 _ _ ep1
                    have za1 : WhA P w C (upd H7 d3 (DicN P w d3 [])) x1 e1 S1 := ⟨⟨x1d, ep8⟩, ⟨by rw [upd_ne ne1]; exact ya1.2.1.1, ya1.2.1.2.kd nt Kd.put⟩, ya1.2.2.1, ya1.2.2.2⟩
                    have zb1 : PoA P w (upd H7 d3 (DicN P w d3 [])) d1 L1 := ⟨by rw [upd_ne n31.symm]; exact yb1.1, yb1.2.kd nt Kd.put⟩
                    have dc8 : DiceAt (upd H7 d3 (DicN P w d3 [])) p := by
                      obtain ⟨a1, a2, a3, a4⟩ := dc2.on (Same.tr s24 s57)
                      exact ⟨a1, a2, a3, by rw [upd_ne np3.symm]; exact a4⟩
                    have kd8 : Kd p H (upd H7 d3 (DicN P w d3 [])) := fun c o nc e => by
                      rw [upd_ne (ne_of_none e nd3)]
                      exact (Same.tr s24 s57) _ _ (kd2 _ _ nc e)
                    refine ⟨_, rfl, _, rfl, x1, d1, S1, L1, rfl, ⟨e1, za1⟩, fun dq wq => ?_, zb1, g1, pm1, fun Ha sa => ⟨true, rfl, if_pos_of rfl ?_⟩⟩
                    · rw [za1.dict wq]
                      exact (ne_of_none pb1.1 he1).symm
                    refine ⟨_, rfl, _, rfl, x1, x1d, _, d1, _, rfl, sa _ _ ep8, rfl, .inl (zb1.same sa).1, L.Z.nfD, x1, S1, _, rfl, ⟨e1, za1.same sa⟩, .inr (.inr ⟨d1, L1, rfl, zb1.same sa, _, rfl, true, rfl, if_pos_of rfl ?_⟩)⟩
                    exact ⟨_, rfl, x1, x1d, _, _, rfl, sa _ _ ep8, .non, L.Z.nfN, x1, S1, _, rfl, ⟨e1, za1.same sa⟩, .inr (.inl ⟨_, .base .non, L.Z.I.noN, _, rfl, k _ (kd8.tr (Kd.of sa)) (dc8.on sa)⟩)⟩
end
end K0

/-! ## F30 -/
set_option maxRecDepth 100000
set_option maxHeartbeats 2000000
namespace K0
open PySem L2 NS ND RZ
/-! ### the law's own dicts -/
theorem nd_one {α : Type} (a : α) : [a].Nodup := List.nodup_cons.mpr ⟨List.not_mem_nil, .nil⟩
abbrev p12 : Pr := [("r", [1, 2], 1)]
abbrev kStep : TE := tTup (tCons (tTup (tCons (tC (V.str "r")) (tCons (tTup (tInts [1, 2])) (tCons (tC (V.int 1)) tNil)))) tNil)
section
variable {P : Program} {w : World} {K : PySem.W.Frag} {σ : L2.St} {H : Hp} {Q : VK}
theorem disp_step (h : ∀ d a1 a2 H', Same H H' → PoA P w H' d [(p12, a1, 2), ([], a2, 1)] → Q (.ref d) H') : tDispN P w K [(kStep, tC (V.int 2)), (tTup tNil, tC (V.int 1))] σ H Q := by
  intro d hd
  have s0 : Same H (upd H d (DicN P w d [])) := Same.new _ hd
  have g0 : (upd H d (DicN P w d [])) d = some (DicN P w d []) := upd_same
  generalize upd H d (DicN P w d []) = H0 at s0 g0 ⊢
  dsimp only [tPairs]
  refine one_read (tri_read "r" [1, 2] (.int 1) (by decide) fun e1 b1 H1 s1 he hb t1 ht1 => ?_) (tri_mono "r" [1, 2] (.int 1))
  have s1' : Same H1 (upd H1 t1 (.tup [.ref e1])) := Same.new _ ht1
  have pr1 : ProA (upd H1 t1 (.tup [.ref e1])) t1 p12 := ⟨[e1], upd_same, .cons ⟨b1, s1' _ _ he, s1' _ _ hb⟩ .nil⟩
  generalize upd H1 t1 (.tup [.ref e1]) = H2 at s1' pr1 ⊢
  refine ⟨Nat.zero_le _, fun t2 ht2 => ?_⟩
  have s2 : Same H2 (upd H2 t2 (.tup [])) := Same.new _ ht2
  have pr2 : ProA (upd H2 t2 (.tup [])) t2 [] := ⟨[], upd_same, .nil⟩
  have pr1' := pr1.same s2
  generalize upd H2 t2 (.tup []) = H3 at s2 pr2 pr1' ⊢
  have s03 := Same.tr s1 (Same.tr s1' s2)
  have ks : Ks H3 [(p12, t1, 2), ([], t2, 1)] := fun e he => by
    rcases List.mem_cons.mp he with rfl | he
    · exact pr1'
    · rw [List.mem_singleton.mp he]
      exact pr2
  have nt : ∀ xs, H3 d ≠ some (.tup xs) := po_ne (L := []) ⟨s03 _ _ g0, nofun⟩
  refine ⟨s03 _ _ g0, ([(p12, t1, 2), ([], t2, 1)] : Po).map enP, rfl, ks.keyed, ?_, by show 2 ≤ 15; decide, ?_⟩
  · show [kP p12, kP []].Nodup
    refine List.nodup_cons.mpr ⟨fun z => ?_, nd_one _⟩
    cases kP_inj (List.mem_singleton.mp z)
  · refine h d t1 t2 _ (fun c o e => ?_) ⟨upd_same, ks.kd nt Kd.put⟩
    rw [upd_ne (ne_of_none e hd)]
    exact s03 _ _ (s0 _ _ e)
theorem disp_one (h : ∀ d a2 H', Same H H' → PoA P w H' d [([], a2, 3)] → Q (.ref d) H') : tDispN P w K [(tTup tNil, tC (V.int 3))] σ H Q := by
  intro d hd
  have s0 : Same H (upd H d (DicN P w d [])) := Same.new _ hd
  have g0 : (upd H d (DicN P w d [])) d = some (DicN P w d []) := upd_same
  generalize upd H d (DicN P w d []) = H2 at s0 g0 ⊢
  dsimp only [tPairs]
  refine ⟨Nat.zero_le _, fun t2 ht2 => ?_⟩
  have s2 : Same H2 (upd H2 t2 (.tup [])) := Same.new _ ht2
  have pr2 : ProA (upd H2 t2 (.tup [])) t2 [] := ⟨[], upd_same, .nil⟩
  generalize upd H2 t2 (.tup []) = H3 at s2 pr2 ⊢
  have ks : Ks H3 [([], t2, 3)] := fun e he => by
    rw [List.mem_singleton.mp he]
    exact pr2
  have nt : ∀ xs, H3 d ≠ some (.tup xs) := po_ne (L := []) ⟨s2 _ _ g0, nofun⟩
  refine ⟨s2 _ _ g0, ([([], t2, 3)] : Po).map enP, rfl, ks.keyed, nd_one _, by show 1 ≤ 15; decide, ?_⟩
  refine h d t2 _ (fun c o e => ?_) ⟨upd_same, ks.kd nt Kd.put⟩
  rw [upd_ne (ne_of_none e hd)]
  exact s2 _ _ (s0 _ _ e)
end
theorem wf12 : WfP p12 := ⟨fun t ht => by rw [List.mem_singleton.mp ht]; exact ⟨by decide +kernel, by decide +kernel, by decide +kernel⟩, rfl, by decide⟩
theorem wf0 : WfP [] := ⟨nofun, rfl, by decide⟩
theorem num_few {n : Nat} (h : n ≤ 1000) (h0 : 0 < n) : isI (.int (n : Int)) = true ∧ (0 : Int) < n := ⟨isI_few h, by omega⟩
theorem wfStep (a1 a2 : Addr) : WfL [(p12, a1, 2), ([], a2, 1)] := by
  refine ⟨fun e he => ?_, fun e he => ?_, ?_, by show 2 ≤ 60; decide⟩
  · rcases List.mem_cons.mp he with rfl | he
    · exact wf12
    · rw [List.mem_singleton.mp he]
      exact wf0
  · rcases List.mem_cons.mp he with rfl | he
    · exact num_few (n := 2) (by decide) (by decide)
    · rw [List.mem_singleton.mp he]
      exact num_few (n := 1) (by decide) (by decide)
  · show [p12, ([] : Pr)].Nodup
    refine List.nodup_cons.mpr ⟨fun z => ?_, nd_one _⟩
    cases List.mem_singleton.mp z
theorem wfOne (a2 : Addr) : WfL [([], a2, 3)] := by
  refine ⟨fun e he => ?_, fun e he => ?_, nd_one _, by show 1 ≤ 60; decide⟩
  · rw [List.mem_singleton.mp he]
    exact wf0
  · rw [List.mem_singleton.mp he]
    exact num_few (n := 3) (by decide) (by decide)
theorem wfNil : WfL [] := ⟨nofun, nofun, .nil, Nat.zero_le _⟩
end K0

/-! ## F29 -/
set_option maxRecDepth 100000
set_option maxHeartbeats 2000000
namespace K0
open PySem L2 NS ND RZ
/-! ### law -/
theorem mk0 {C : Addr} {sp : Sp} {E : XK} {te : TE} {σ : L2.St} {H : Hp} {Q : VK} (h : te σ H fun v H1 => ∀ x dx, H1 x = none → H1 dx = none → dx ≠ x → sp (.ref x :: ([v] ++ [])) (upd (upd H1 dx (.own x)) x (.ins C dx [])) (fun v H2 => v = .non ∧ Q (.ref x) H2) E) : tMake C sp [] E (tCons te tNil) σ H Q := h
theorem mk_step {P : Program} {w : World} {K : PySem.W.Frag} {C : Addr} {E : XK} {σ : L2.St} {H : Hp} {Q : VK} (h : ∀ x e S a1 a2 H', Same H H' → S.Perm [(p12, a1, 2), ([], a2, 1)] → WhA P w C H' x e S → Q (.ref x) H') :
    tMake C (spInit P w C) [] E (tCons (tDispN P w K [(kStep, tC (V.int 2)), (tTup tNil, tC (V.int 1))]) tNil) σ H Q :=
  mk0 (disp_step fun d a1 a2 H2 s2 hd => make_read hd (wfStep a1 a2) fun x dp S H3 s3 hx hdp pS wa => h x dp S a1 a2 H3 (Same.tr s2 s3) pS wa)
theorem mk_one {P : Program} {w : World} {K : PySem.W.Frag} {C : Addr} {E : XK} {σ : L2.St} {H : Hp} {Q : VK} (h : ∀ x e S a2 H', Same H H' → S.Perm [([], a2, 3)] → WhA P w C H' x e S → Q (.ref x) H') :
    tMake C (spInit P w C) [] E (tCons (tDispN P w K [(tTup tNil, tC (V.int 3))]) tNil) σ H Q :=
  mk0 (disp_one fun d a2 H2 s2 hd => make_read hd (wfOne a2) fun x dp S H3 s3 hx hdp pS wa => h x dp S a2 H3 (Same.tr s2 s3) pS wa)
theorem mk_nil {P : Program} {w : World} {C : Addr} {E : XK} {σ : L2.St} {H : Hp} {Q : VK} (h : ∀ x e S H', Same H H' → S.Perm [] → WhA P w C H' x e S → Q (.ref x) H') :
    tMake C (spInit P w C) [] E (tCons (tNNew P w) tNil) σ H Q :=
  mk0 fun d hd => make_read (L := []) ⟨upd_same, nofun⟩ wfNil fun x dp S H3 s3 hx hdp pS wa => h x dp S H3 (Same.tr (Same.new _ hd) s3) pS wa
theorem pP {C : Addr} {sp : Sp} {dvs : List V} {E : XK} {ta : TE} {σ : L2.St} {H : Hp} {Q : VK} (h : ta σ H fun x H1 => ∃ a dx fs, x = .ref a ∧ H1 a = some (.ins C dx fs) ∧ sp (.ref a :: dvs) H1 Q E) : tProp C sp dvs E ta σ H Q := h
def dueD : List PyData := [.str "1 + 2 r(1 2)", .str "0", .str "3", .tuple [], .int 3, .tuple [], .bool true]
theorem due_sh : SeqAt.shaped (.list dueD) = true := by decide +kernel
theorem due_eq : PyData.eqv (.list dueD) (.list dueD) = true := by decide +kernel
theorem due_dp {K : PySem.W.Frag} {H : Hp} {t u : Addr} (ht : H t = some (.tup [])) (hu : H u = some (.tup [])) : DpAll K H [.str "1 + 2 r(1 2)", .str "0", .str "3", .ref t, .int 3, .ref u, .bl true] dueD :=
  .cons (.str _) (.cons (.str _) (.cons (.str _) (.cons (.tup (SqT.of ht) .nil) (.cons (.int _) (.cons (.tup (SqT.of hu) .nil) (.cons (.bl _) .nil))))))
theorem cB1 {r : List V → Hp → VK → Prop} {te : TE} {σ : L2.St} {H : Hp} {Q : VK} (h : te σ H fun v H1 => r [v] H1 Q) : tCB r (tCons te tNil) σ H Q := h
def tStep : List (Pr × Int) := [([], 1), (p12, 2)]
theorem step_strip {S : Po} {a1 a2 : Addr} (srt : SrtP S) (p : S.Perm [(p12, a1, 2), ([], a2, 1)]) : S.map strip = tStep := by
  have sT : SrtP [([], a2, 1), (p12, a1, 2)] := List.pairwise_cons.mpr ⟨fun e he => by rw [List.mem_singleton.mp he]; rfl, List.pairwise_singleton _ _⟩
  exact strip_uniq srt sT ((p.trans (List.Perm.swap _ _ _)).map strip)
theorem step_text : poT tStep = "1 + 2 r(1 2)" := by decide +kernel
theorem text0 : poS [] = "0" := rfl
theorem text3 (a : Addr) : poS [([], a, 3)] = "3" := by
  rw [poS_strip]
  show poT [([], 3)] = "3"
  decide +kernel
theorem step_need {S : Po} (h : S.map strip = tStep) : neededOf S = [] := by
  cases S with
  | nil => rfl
  | cons e S =>
    have z := (List.cons.inj h).1
    have z1 : e.1 = [] := (Prod.mk.inj z).1
    show (entsP e.1).filter _ = []
    rw [z1]
    rfl
theorem step_ways {S : Po} (h : S.map strip = tStep) : (numsP S).sum = 3 := by
  rw [nums_strip, h]
  rfl
theorem step_has {S : Po} (h : S.map strip = tStep) : hasP S [] = true := by
  cases S with
  | nil => cases h
  | cons e S =>
    have z1 : e.1 = [] := (Prod.mk.inj (List.cons.inj h).1).1
    exact List.any_eq_true.mpr ⟨e, List.mem_cons_self, decide_eq_true z1⟩
theorem nil_perm {S : Po} (p : S.Perm []) : S = [] := List.length_eq_zero_iff.mp p.length_eq
theorem one_perm {S : Po} {e : Pr × Addr × Int} (p : S.Perm [e]) : S = [e] := List.perm_singleton.mp p
theorem sq_kd {K : PySem.W.Frag} {H H' : Hp} {p a : Addr} {xs : List V} (h : SqL K H a xs) (hp : H p = none) (k : Kd p H H') : SqL K H' a xs := by
  rcases h with h | h
  · rcases h with q | ⟨o, q⟩
    · exact .inl (.inl (k _ _ (ne_of_none q hp) q))
    · exact .inl (.inr ⟨o, k _ _ (ne_of_none q hp) q⟩)
  · exact .inr h
abbrev sLaw : Stmt := top 40
def spLaw (K : PySem.W.Frag) : Sp := fun vs H Q _ => ∃ (a : Addr) (ns : List Int), vs = [.ref a] ∧ SqL K H a (ns.map V.int) ∧ ∀ H', Q (.bl true) H'
structure LW (P : Program) (w : World) (K : PySem.W.Frag) (mg : Str → Option Value) (base : Heap) (C : Addr) : Prop where
  R : LR P w K mg base C
  rng : mg "range" = none
  max : mg "max" = none
  min : mg "min" = none
  dic : ∃ f fd, Glo K mg "_law_dice" f ∧ FnOk P w K mg base CX0 1 f fd ["_law_script", "_law_spot"] (spDice K) ∧ Binds K fd ["_law_script", "_law_spot"] []
  rgt : ∃ f fd, Glo K mg "_law_right" f ∧ FnOk P w K mg base CX0 10 f fd ["_law_dice_here"] spRight ∧ Binds K fd ["_law_dice_here"] []
section
variable {P : Program} {w : World} {K : PySem.W.Frag} {mg : Str → Option Value} {base : Heap} {C : Addr}
abbrev nLaw : List Str := ["_law_script", "_law_spot", "_law_dice_here", "_law_turn", "_law_step", "_law_told"]
theorem scLaw : FnScope nLaw ["_law_script"] (defScope sLaw) := ⟨rfl, rfl, rfl, by decide +kernel, rfl, by decide +kernel, by decide +kernel⟩
theorem ok_law {f : Addr} {fd : FuncData} (F : Fun K "law" "law" sLaw f fd) (L : LW P w K mg base C) : FnOk P w K mg base CX0 12 f fd ["_law_script"] (spLaw K) := by
  obtain ⟨fD, fdD, eD, GD, bD⟩ := L.dic
  obtain ⟨fR, fdR, eR, GR, bR⟩ := L.rgt
  obtain ⟨fI, fdI, M, GI, bI⟩ := L.R.mkr
  have Z := L.R.Z
  have B := L.R.B
  refine F.ok scLaw (fun vs H Q E h => ?_) (fun cdv A outer s H vs Q E hr h => ?_)
  · obtain ⟨a, ns, rfl, _⟩ := h
    rfl
  · obtain ⟨a, ns, rfl, hS, k⟩ := h
    have hr1 : Room 1 _ := hr.mono (by decide)
    have hr3 : Room 3 _ := hr.mono (by decide)
    have hr2 : Room 2 _ := hr.mono (by decide)
    have hr5 : Room 5 _ := hr.mono (by decide)
    have hr7 : Room 7 _ := hr.mono (by decide)
    have hr9 : Room 9 _ := hr.mono (by decide)
    have hr10 : Room 10 _ := hr.mono (by decide)
    refine ⟨_, C8.pss_cut (ps_for PassesOwn.never rfl (pi_range1 (by rfl) L.rng (pa_cons (pe_callB (call_max2 rfl) (by rfl) L.max (by decide +kernel) (pa_cons pe_int (pa_cons (pe_callB (call_min2 rfl) (by rfl) L.min (by decide +kernel) (pa_cons pe_int (pa_cons (pe_callB call_len_seq (by rfl) B.len PySem.boot_len (pa_cons (pv 0) pa_nil)) pa_nil))) pa_nil))) pa_nil)) (pg_name (i := 1) scLaw.nd rfl (Or.inl rfl))
        (pss_cons (ps_set (i := 2) scLaw.nd rfl (Or.inl rfl) (pe_call (E := E0) GD hr1 (by rfl) eD.g eD.k bD .nil pass0 (pa_cons (pv 0) (pa_cons (pv 1) pa_nil))))
        (pss_one (ps_for PassesOwn.never rfl (pi_range1 (by rfl) L.rng (pa_cons pe_int pa_nil)) (pg_name (i := 3) scLaw.nd rfl (Or.inl rfl))
          (pss_one (ps_if (pt_not (pt_val (pe_call (E := E0) GR hr10 (by rfl) eR.g eR.k bR .nil pass0 (pa_cons (pv 2) pa_nil)))) (pss_one (ps_ret pe_bl)) pss_nil))))))
      (C8.pss_cut (ps_set (i := 4) scLaw.nd rfl (Or.inl rfl) (pe_make (E := E0) M GI hr9 (by rfl) L.R.gW bI .nil pass0 (pa_cons (pe_dispN (u9 hr) (pps_cons (pe_tup (pa_cons (pe_tup (pa_cons pe_str (pa_cons (pe_tup (pa_cons pe_int (pa_cons pe_int pa_nil))) (pa_cons pe_int pa_nil)))) pa_nil)) pe_int (pps_cons (pe_tup pa_nil) pe_int pps_nil)) rfl rfl (by decide) (by decide)) pa_nil)))
      (C8.pss_cut (ps_set (i := 5) scLaw.nd rfl (Or.inl rfl) (pe_lst (pa_cons (pe_callTy (T := "str") (cr_str1 Z.str hr5) (by rfl) B.str (by decide +kernel) (pa_cons (pv 4) pa_nil))
          (pa_cons (pe_callTy (T := "str") (cr_str1 Z.str hr5) (by rfl) B.str (by decide +kernel) (pa_cons (pe_make (E := E0) M GI hr9 (by rfl) L.R.gW bI .nil pass0 (pa_cons pe_nnew pa_nil)) pa_nil))
          (pa_cons (pe_callTy (T := "str") (cr_str1 Z.str hr5) (by rfl) B.str (by decide +kernel) (pa_cons (pe_make (E := E0) M GI hr9 (by rfl) L.R.gW bI .nil pass0 (pa_cons (pe_dispN (u9 hr) (pps_cons (pe_tup pa_nil) pe_int pps_nil) rfl rfl (by decide) (by decide)) pa_nil)) pa_nil))
          (pa_cons (pe_gtr Z.need Z.T.cl hr3 (pv 4)) (pa_cons (pe_gtr Z.way Z.T.cl hr2 (pv 4)) (pa_cons (pe_gtr Z.need Z.T.cl hr3 (pe_make (E := E0) M GI hr9 (by rfl) L.R.gW bI .nil pass0 (pa_cons pe_nnew pa_nil)))
          (pa_cons (pe_cmpR (op_in1 Z.con hr7) (pe_tup pa_nil) (pv 4) rfl) pa_nil)))))))))
      (pss_one (ps_ret (pe_cmpR (op_eqD hr.units) (pv 5) (pe_lst (pa_cons pe_str (pa_cons pe_str (pa_cons pe_str (pa_cons (pe_tup pa_nil) (pa_cons pe_int (pa_cons (pe_tup pa_nil) (pa_cons pe_bl pa_nil)))))))) (nomark _)))))), ?_⟩
    refine ⟨fun σ H' => ∃ b1 b2 b3 b4 b5 : Option V, σ = [some (.ref a), b1, b2, b3, b4, b5], ?_, ?_⟩
    · refine ⟨_, rfl, a, _, rfl, .inl hS, _, _, rfl, _, _, rfl, ?_⟩
      refine ⟨_, rfl, ?_, ?_, for_range (n := _) (fun i σ H' => (∃ b1 b2 b3 b4 b5 : Option V, σ = [some (.ref a), b1, b2, b3, b4, b5]) ∧ SqL K H' a (ns.map V.int)) ⟨⟨_, _, _, _, _, rfl⟩, hS⟩ ?_ ?_⟩
      · repeat' split
        all_goals omega
      · repeat' split
        all_goals omega
      · rintro i σ H1 hi ⟨⟨b1, b2, b3, b4, b5, rfl⟩, hS1⟩
        refine ⟨_, rfl, _, rfl, a, ns, _, rfl, hS1, by show (0 : Int) ≤ 0 + (i : Nat); omega, fun H2 p s2 hp2 dc2 => ?_⟩
        have hp1 : H1 p = none := hp2
        refine ⟨3, rfl, by decide, by decide, for_range (n := 3) (fun i σ H' => (∃ b1 b3 b4 b5 : Option V, σ = [some (.ref a), b1, some (.ref p), b3, b4, b5]) ∧ Kd p H1 H' ∧ DiceAt H' p) ⟨⟨_, _, _, _, rfl⟩, Kd.of s2, dc2⟩ ?_ ?_⟩
        · rintro j σ H3 hj ⟨⟨c1, c3, c4, c5, rfl⟩, k3, dc3⟩
          exact ⟨_, rfl, p, rfl, dc3, fun H4 kd4 dc4 => ⟨_, rfl, if_neg_of rfl ⟨⟨_, _, _, _, rfl⟩, k3.tr kd4, dc4⟩⟩⟩
        · rintro σ H3 ⟨⟨c1, c3, c4, c5, rfl⟩, k3, dc3⟩
          exact ⟨⟨_, _, _, _, _, rfl⟩, sq_kd hS1 hp1 k3⟩
      · rintro σ H1 ⟨⟨b1, b2, b3, b4, b5, rfl⟩, _⟩
        exact ⟨_, _, _, _, _, rfl⟩
    rintro σ H1 ⟨b1, b2, b3, b4, b5, rfl⟩
    refine ⟨fun σ H' => ∃ b1 b2 b3 b5 x e S a1 a2, σ = [some (.ref a), b1, b2, b3, some (.ref x), b5] ∧ WhA P w C H' x e S ∧ S.Perm [(p12, a1, 2), ([], a2, 1)], ?_, ?_⟩
    · dsimp only [tAsg]
      exact mk_step fun x dp S a1 a2 H3 s3 pS wa => ⟨b1, b2, b3, b5, x, dp, S, a1, a2, rfl, wa, pS⟩
    rintro σ H2 ⟨b1, b2, b3, b5, x, e, S, a1, a2, rfl, wa, pS⟩
    have es := step_strip wa.2.2.1 pS
    have wS : WhO P w C H2 x S := ⟨e, wa⟩
    obtain ⟨xd, ep⟩ := wa.1
    have lS : S.length = 2 := pS.length_eq
    have fS : ∀ u ∈ S, u.1.length ≤ 8 := fun u hu => by
      rcases List.mem_cons.mp (pS.mem_iff.mp hu) with rfl | z
      · show 1 ≤ 8
        decide
      · rw [List.mem_singleton.mp z]
        exact Nat.zero_le _
    refine ⟨fun σ H' => ∃ b1 b2 b3 o t4 t6, σ = [some (.ref a), b1, b2, b3, some (.ref x), some (.ref o)] ∧ H' o = some (.lst [.str "1 + 2 r(1 2)", .str "0", .str "3", .ref t4, .int 3, .ref t6, .bl true]) ∧ H' t4 = some (.tup []) ∧ H' t6 = some (.tup []), ?_, ?_⟩
    · dsimp only [tAsg]
      refine c0 (cB1 ⟨_, rfl, x, xd, _, rfl, ep, x, S, rfl, wS, by omega, fS, fun H3 s3 => ⟨_, rfl, ?_⟩⟩)
      rw [poS_strip, es, step_text]
      refine c0 (cB1 (mk_nil fun x2 e2 S2 H4 s4 pS2 wa2 => ?_))
      obtain rfl := nil_perm pS2
      obtain ⟨xd2, ep2⟩ := wa2.1
      refine ⟨x2, xd2, _, rfl, ep2, x2, [], rfl, ⟨e2, wa2⟩, Nat.zero_le _, nofun, fun H5 s5 => ⟨_, rfl, ?_⟩⟩
      rw [text0]
      refine c0 (cB1 (mk_one fun x3 e3 S3 a3 H6 s6 pS3 wa3 => ?_))
      obtain rfl := one_perm pS3
      obtain ⟨xd3, ep3⟩ := wa3.1
      refine ⟨x3, xd3, _, rfl, ep3, x3, [([], a3, 3)], rfl, ⟨e3, wa3⟩, by show 1 ≤ 8; decide, fun u hu => by rw [List.mem_singleton.mp hu]; exact Nat.zero_le _, fun H7 s7 => ⟨_, rfl, ?_⟩⟩
      rw [text3]
      have s27 := Same.tr s3 (Same.tr s4 (Same.tr s5 (Same.tr s6 s7)))
      refine c0 (pP ⟨_, rfl, x, xd, _, rfl, s27 _ _ ep, x, S, rfl, wS.same s27, fun H8 t4 ts4 s8 h4 e4 => ?_⟩)
      rw [step_need es] at e4
      cases e4
      have s28 := Same.tr s27 s8
      refine c0 (pP ⟨_, rfl, x, xd, _, rfl, s28 _ _ ep, x, S, rfl, wS.same s28, fun H9 s9 => ?_⟩)
      rw [step_ways es]
      refine c0 (pP (mk_nil fun x5 e5 S5 HA sA pS5 wa5 => ?_))
      obtain rfl := nil_perm pS5
      obtain ⟨xd5, ep5⟩ := wa5.1
      refine ⟨x5, xd5, _, rfl, ep5, x5, [], rfl, ⟨e5, wa5⟩, fun HB t6 ts6 sB h6 e6 => ?_⟩
      cases e6
      have s8B := Same.tr s9 (Same.tr sA sB)
      have s2B := Same.tr s28 s8B
      refine c0 ⟨Nat.zero_le _, fun t ht => ⟨_, rfl, x, xd, _, rfl, (Same.tr s2B (Same.new _ ht)) _ _ ep, x, S, _, rfl, wS.same (Same.tr s2B (Same.new _ ht)), .inr ⟨t, [], rfl, ⟨[], upd_same, .nil⟩, wf0, fun HC sC => ⟨_, rfl, ?_⟩⟩⟩⟩
      rw [step_has es]
      have sBC : Same HB HC := Same.tr (Same.new _ ht) sC
      refine ⟨by show 7 ≤ sizeLine; rw [sizeLine_eq]; decide, fun o ho => ?_⟩
      have so : Same HC (upd HC o (.lst [.str "1 + 2 r(1 2)", .str "0", .str "3", .ref t4, .int 3, .ref t6, .bl true])) := Same.new _ ho
      exact ⟨b1, b2, b3, o, t4, t6, rfl, upd_same, so _ _ (sBC _ _ (s8B _ _ h4)), so _ _ (sBC _ _ h6)⟩
    · rintro σ H3 ⟨b1, b2, b3, o, t4, t6, rfl, ho, h4, h6⟩
      refine ⟨_, rfl, Nat.zero_le _, fun u1 hu1 => ⟨Nat.zero_le _, fun u2 hu2 => ⟨by show 7 ≤ sizeLine; rw [sizeLine_eq]; decide, fun m hm => ?_⟩⟩⟩
      have s1 : Same H3 (upd H3 u1 (.tup [])) := Same.new _ hu1
      have g1 : (upd H3 u1 (.tup [])) u1 = some (.tup []) := upd_same
      generalize upd H3 u1 (.tup []) = H4 at s1 g1 hu2 hm ⊢
      have s2 : Same H4 (upd H4 u2 (.tup [])) := Same.new _ hu2
      have g2 : (upd H4 u2 (.tup [])) u2 = some (.tup []) := upd_same
      generalize upd H4 u2 (.tup []) = H5 at s2 g2 hm ⊢
      have s3 : Same H5 (upd H5 m (.lst [.str "1 + 2 r(1 2)", .str "0", .str "3", .ref u1, .int 3, .ref u2, .bl true])) := Same.new _ hm
      have s13 := Same.tr s1 (Same.tr s2 s3)
      refine ⟨.list dueD, .list dueD, .lst (SqL.of (s13 _ _ ho)) (due_dp (s13 _ _ h4) (s13 _ _ h6)), .lst (SqL.of upd_same) (due_dp (s3 _ _ (s2 _ _ g1)) (s3 _ _ g2)), due_sh, due_sh, ?_⟩
      rw [due_eq]
      exact k _
end
end K0

/-! ## E2 -/
set_option maxRecDepth 100000
set_option maxHeartbeats 2000000
namespace K0
open PySem PySem.Spec PyProof.Rows L2
/-! ### the end: the law called where nothing is being shown, with tables of code objects -/
/-- the script's list and the tables, all that is tracked at the start -/
def startH (K : PySem.W.Frag) (ts : List Addr) (a : Addr) (oS : Obj) (xs : List V) : Hp := fun b => if b ∈ ts then some (.tbl #[]) else if b = a ∧ (K.lookup a).isNone = true then some (.frz oS (.lst xs)) else none
section
variable {P : Program} {w : World} {K : PySem.W.Frag} {mg mb : Str → Option Value} {a fa : Addr} {ts : List Addr} {s : Shared} {us : List Value} {ns : List Int}
abbrev lstO (us : List Value) : Obj := { cls := .type "list", data := .seq us.toArray }
theorem startH_tab {oS : Obj} {xs : List V} {b : Addr} (h : b ∈ ts) : startH K ts a oS xs b = some (.tbl #[]) := if_pos h
theorem startH_cases {oS : Obj} {xs : List V} {b : Addr} {o : HO} (h : startH K ts a oS xs b = some o) : (b ∈ ts ∧ o = .tbl #[]) ∨ (b = a ∧ K.lookup a = none ∧ o = .frz oS (.lst xs)) := by
  unfold startH at h
  split at h
  · rename_i h1
    cases h
    exact .inl ⟨h1, rfl⟩
  · split at h
    · rename_i h2
      cases h
      exact .inr ⟨h2.1, Option.isNone_iff_eq_none.mp h2.2, rfl⟩
    · cases h
theorem startH_no {oS : Obj} {xs : List V} {b : Addr} (h1 : b ∉ ts) (h2 : b = a → K.lookup a ≠ none) : startH K ts a oS xs b = none := by
  cases e : startH K ts a oS xs b with
  | none => rfl
  | some o =>
    rcases startH_cases e with ⟨z, _⟩ | ⟨z, y, _⟩
    · exact absurd z h1
    · exact absurd y (h2 z)
/-- what holds of the world before the call -/
structure Fore (K : PySem.W.Frag) (mg mb : Str → Option Value) (ts : List Addr) (a : Addr) (us : List Value) (ns : List Int) (s : Shared) : Prop where
  k : K.In s.heap
  g : s.heap.Ns mainGlobals mg
  b : s.heap.Ns builtinsNs mb
  bb : ∀ x : Str, x ≠ "__name__" → mb x = bootBuiltins x
  lim : s.heap.NoLimit
  gens : s.gens = #[]
  tab : ∀ q ∈ ts, s.heap.get? q = some { cls := .none, data := .fields #[] }
  noK : ∀ q ∈ ts, K.lookup q = none
  bm : ∃ (bm : Addr) (ob : Obj), mg "__builtins__" = some (.ref bm) ∧ bm ≠ builtinsNs ∧ s.heap.get? bm = some ob ∧ ob.cls = .type "module" ∧ ob.dict = some builtinsNs ∧ ob.data = .plain
  scr : s.heap.get? a = some (lstO us)
  nums : IntsAre us ns
  len : ns.length ≤ sizeLine
theorem Fore.aT (F : Fore K mg mb ts a us ns s) : a ∉ ts := fun z => by
  have q := F.tab a z
  rw [F.scr] at q
  have z2 : (Value.type "list") = Value.none := congrArg Obj.cls (Option.some.inj q)
  cases z2
theorem Fore.off (F : Fore K mg mb ts a us ns s) {b : Addr} {o : Obj} (e : s.heap.get? b = some o) (h : o.cls ≠ .none) (h2 : o.cls ≠ .type "list") : startH K ts a (lstO us) (ns.map V.int) b = none :=
  startH_no (fun z => by
    rw [F.tab b z] at e
    cases e
    exact h rfl) fun z => by
    rw [z, F.scr] at e
    cases e
    exact absurd rfl h2
theorem Fore.offD (F : Fore K mg mb ts a us ns s) {b : Addr} {o : Obj} (e : s.heap.get? b = some o) (h : o.data ≠ .fields #[]) (h2 : ∀ vs n, o.data ≠ .seq vs n) : startH K ts a (lstO us) (ns.map V.int) b = none :=
  startH_no (fun z => by
    rw [F.tab b z] at e
    cases e
    exact h rfl) fun z => by
    rw [z, F.scr] at e
    cases e
    exact absurd rfl (h2 _ _)
/-- the part of the heap that no one tracks -/
abbrev foreB (K : PySem.W.Frag) (ts : List Addr) (a : Addr) (us : List Value) (ns : List Int) (s : Shared) : Heap := hidT s.heap (startH K ts a (lstO us) (ns.map V.int))
theorem Fore.nsB (F : Fore K mg mb ts a us ns s) {b : Addr} {m : Str → Option Value} (h : s.heap.Ns b m) : (foreB K ts a us ns s).Ns b m := by
  obtain ⟨o, es, ep, e, d, r⟩ := h
  refine ⟨o, es, ep, hidT_get e (F.offD e (fun z => ?_) fun vs n z => ?_), d, r⟩
  · rw [d] at z
    cases z
  · rw [d] at z
    cases z
theorem Fore.kB (F : Fore K mg mb ts a us ns s) : K.In (foreB K ts a us ns s) := fun b o e => hidT_get (F.k b o e) (startH_no (fun z => by
  rw [F.noK b z] at e
  cases e) fun z y => by
    rw [z, y] at e
    cases e)
theorem Fore.modB (F : Fore K mg mb ts a us ns s) : L2.Mod K mg (foreB K ts a us ns s) := ⟨F.kB, F.nsB F.g, ⟨mb, F.nsB F.b, F.bb⟩, by
  obtain ⟨mc, h1, h2⟩ := F.lim
  exact ⟨mc, F.nsB h1, h2⟩⟩
theorem Fore.tabB (F : Fore K mg mb ts a us ns s) {c q : Addr} (hq : q ∈ ts) (C : PySem.W.CodeHd s.heap c q) : LamX.TabB (foreB K ts a us ns s) mg c q := by
  have hT := F.tab q hq
  refine ⟨?_, ?_, fun z => ?_⟩
  · obtain ⟨o, vs, file, tf, flags, tg, inF, text, tt, e1, r1, r2, r3, rest⟩ := C
    refine ⟨o, vs, file, tf, flags, tg, inF, text, tt, hidT_get e1 (F.offD e1 (fun z => ?_) fun us n z => ?_), r1, r2, r3, rest⟩
    · rw [r2] at z
      cases z
      simp at r3
    · rw [r2] at z
      cases z
  · obtain ⟨bm, ob, b1, b2, b3, b4, b5, b6⟩ := F.bm
    have pl : ob.data ≠ .fields #[] := fun z => by
      rw [b6] at z
      cases z
    refine ⟨bm, ob, b1, b2, fun z => ?_, fun z => ?_, hidT_get b3 (F.offD b3 pl fun us n z => ?_), b4, b5, b6⟩
    · obtain ⟨o, es, ep, e, hd, _⟩ := F.g
      rw [z, e] at b3
      cases b3
      rw [hd] at b6
      cases b6
    · rw [z, hT] at b3
      cases b3
      cases b6
    · rw [b6] at z
      cases z
  · obtain ⟨o, es, ep, e, hd, _⟩ := F.g
    rw [z, hT] at e
    cases e
    cases hd
theorem Fore.hok (F : Fore K mg mb ts a us ns s) : HOk P w (startH K ts a (lstO us) (ns.map V.int)) s.heap := fun b o e => by
  rcases startH_cases e with ⟨z, rfl⟩ | ⟨z, _, rfl⟩
  · exact F.tab b z
  · rw [z]
    refine ⟨F.scr, by rw [List.length_map]; exact F.len, us, _, vals_ints F.nums, F.scr⟩
theorem Fore.seqS (F : Fore K mg mb ts a us ns s) : SqL K (startH K ts a (lstO us) (ns.map V.int)) a (ns.map V.int) := by
  cases hk : K.lookup a with
  | none =>
    refine .inl (.inr ⟨lstO us, ?_⟩)
    unfold startH
    rw [if_neg F.aT, if_pos ⟨rfl, by rw [hk]; rfl⟩]
  | some o =>
    have e := F.k a o hk
    rw [F.scr] at e
    cases e
    have lu := F.nums.length
    exact .inr ⟨_, us.toArray, _, hk, rfl, rfl, rfl, by rw [List.size_toArray, lu]; exact F.len, by simpa using vals_ints F.nums⟩
theorem law_callG {CX : CXT} {k : Nat} {fd : FuncData} {x : Str} {sp : Sp} {cs : List (Addr × Addr)} (F : Fore K mg mb ts a us ns s) (hc : ∀ p ∈ cs, p.2 ∈ ts ∧ PySem.W.CodeHd s.heap p.1 p.2) (hc2 : ∀ q ∈ ts, ∃ c, PySem.W.CodeHd s.heap c q) (hr : Room k callerA)
    (G : ∀ base : Heap, K.In base → base.Ns mainGlobals mg → (∀ p ∈ cs, LamX.TabB base mg p.1 p.2) → FnG P w K mg base CX k fa fd [x] sp) (hbind : ∀ (s : Shared) (u : Value), BindsTo s fd ⟨[u], []⟩ [(x, u)])
    (hsp : ∀ H : Hp, (∀ q ∈ ts, H q = some (.tbl #[])) → SqL K H a (ns.map V.int) → sp [.ref a] H (fun v _ => v = .bl true) fun _ _ _ => False) (hCX : ∀ H e s', CX [] H s (fun _ _ _ => False) e s' → False) :
    codeAny (model P w) callerA (.call (.ref fa) ⟨[.ref a], []⟩) (fun r s' => r = .ok (.ret (.bool true)) ∧ OldK s.heap s'.heap ∧ s'.os = s.os ∧ AllBare s'.gens) s := by
  have e0 : Env0 P w K mg (foreB K ts a us ns s) callerA [] s (startH K ts a (lstO us) (ns.map V.int)) := ⟨rfl, F.modB, fun b o e => of_hidT e, Nat.le_of_eq (hidT_size _ _), trivial, (fun b hb => nomatch hb), F.hok, .of_eq F.gens⟩
  have g := (G _ F.kB (F.nsB F.g) fun p hp => F.tabB (hc p hp).1 (hc p hp).2).run callerA [] s _ ⟨[.ref a], []⟩ [.ref a] [.ref a] _ _ hr rfl e0 (hbind s (.ref a)) (.cons rfl .nil) (hsp _ (fun q hq => startH_tab hq) F.seqS)
  refine codeAny_mono g fun r s' h => ?_
  rcases r with e | (_ | _ | _ | u)
  · exact (hCX _ e s' h).elim
  · exact False.elim h
  · exact False.elim h
  · exact False.elim h
  · obtain ⟨v, H', os, bare, un, ok2, rv, q⟩ := h
    have q' : v = .bl true := q
    subst q'
    obtain rfl : u = Value.bool true := rv
    have grown : ∀ z ∈ ts, ∃ more : Array Value, s'.heap.get? z = some { cls := .none, data := .fields more } := fun z hz => by
      obtain ⟨more, y⟩ := un.tbls z #[] (startH_tab hz)
      exact ⟨_, ok2 z _ y⟩
    have stay : ∀ b o, b ∉ ts → s.heap.get? b = some o → s'.heap.get? b = some o := fun b o nb e => by
      cases y : startH K ts a (lstO us) (ns.map V.int) b with
      | none => exact un.keep b o e y (fun z => nomatch z) (fun z => nomatch z)
      | some u =>
        rcases startH_cases y with ⟨z, _⟩ | ⟨z, _, rfl⟩
        · exact absurd z nb
        · obtain ⟨e2, _⟩ := ok2 b _ (un.frzs b _ _ y)
          rw [z, F.scr] at e
          cases e
          rw [z] at e2 ⊢
          exact e2
    refine ⟨rfl, ⟨fun b o e => ?_, fun b o e => ?_⟩, os, bare⟩
    · by_cases hb : b ∈ ts
      · obtain ⟨more, y⟩ := grown b hb
        obtain ⟨c, C⟩ := hc2 b hb
        rw [F.tab b hb] at e
        cases e
        exact .inr (.inl ⟨(C.tab (F.tab b hb)).isCodeTable, rfl, #[], more, rfl, by rw [Array.empty_append]; exact y⟩)
      · exact .inl (stay b o hb e)
    · by_cases hb : b ∈ ts
      · obtain ⟨more, y⟩ := grown b hb
        exact ⟨_, y⟩
      · exact ⟨o, stay b o hb e⟩
end
end K0

/-! ## U2 -/
set_option maxRecDepth 100000
set_option maxHeartbeats 4000000
namespace K0
open PySem PySem.Spec PyProof.Rows L2 NS ND RZ
theorem both {a b : Bool} (h : (a && b) = true) : a = true ∧ b = true := Bool.and_eq_true_iff.mp h
theorem prB_ok {K : PySem.W.Frag} {f : Str} (h : prB K f = true) : PropOf K (caQ K) f (He.ma K (caQ K) f) (gG K f) := by
  obtain ⟨h1, h⟩ := both h
  obtain ⟨h2, h⟩ := both h
  obtain ⟨h3, h4⟩ := both h
  refine ⟨of_decide_eq_true h1, of_decide_eq_true h2, of_decide_eq_true h3, ?_⟩
  unfold gG He5.wf
  split at h4
  · rename_i g r e
    exact ⟨r, by rw [e]⟩
  · cases h4
theorem facts {P : Program} {w w0 : World} {K : PySem.W.Frag} {h : Heap} {mg : Str → Option Value} (X : K.In h) (G : h.Ns mainGlobals mg) (c : He.SaysX fa0 fn0 [] [] ex0 w0 h K) (cg : He5.SaysA [] fg0 K) :
    mg "law" = some (.ref (He.ga K "law")) ∧ ∃ fd : FuncData, (∀ (s : Shared) (u : Value), BindsTo s fd ⟨[u], []⟩ [("_law_script", u)]) ∧
      ∀ base : Heap, K.In base → base.Ns mainGlobals mg → FnG P w K mg base CX0 12 (He.ga K "law") fd ["_law_script"] (spLaw K) := by
  have D := c.t.d
  have gl : ∀ {x : Str} (i : Nat), fa0[i]? = some (.glo x) → mg x = some (.ref (He.ga K x)) := fun i e => He.glo_ok X G (D.fact i e)
  have fr : ∀ {x : Str} (i : Nat), fa0[i]? = some (.free x) → mg x = none := fun i e => He.free_ok X G (D.fact i e)
  have nt : ∀ {x : Str} {k : Int} (i : Nat), fa0[i]? = some (.int x k) → ∃ t, mg x = some (.int k t) := fun i e => He.int_ok X G (D.fact i e)
  have mt : ∀ {m : Str} (i : Nat), fa0[i]? = some (.meth "Whence" m) → Meth K (caQ K) m (He.ma K (caQ K) m) := fun i e => He.meth_ok (D.fact i e)
  have na : ∀ {m : Str} (i : Nat), fa0[i]? = some (.noat "Whence" m) → NoAttr K (caQ K) m := fun i e => He.noat_ok (D.fact i e)
  obtain ⟨pB, m⟩ := both c.more
  obtain ⟨m1, m2⟩ := both m
  obtain ⟨a1, m1⟩ := both m1
  obtain ⟨a2, m1⟩ := both m1
  obtain ⟨a3, m1⟩ := both m1
  obtain ⟨a4, m1⟩ := both m1
  obtain ⟨a5, m1⟩ := both m1
  obtain ⟨a6, m1⟩ := both m1
  obtain ⟨a7, a8⟩ := both m1
  obtain ⟨b1, m2⟩ := both m2
  obtain ⟨b2, m2⟩ := both m2
  obtain ⟨b3, b4⟩ := both m2
  have pr : ∀ {f : Str} (i : Nat), prN[i]? = some f → PropOf K (caQ K) f (He.ma K (caQ K) f) (gG K f) := fun i e => prB_ok (List.all_eq_true.mp pB _ (List.mem_of_getElem? e))
  obtain ⟨fd8, F8⟩ := D.def_ 0 (d := d8) rfl
  have U8 : Fun K "is_integer" "is_integer" (top 8) (He.ga K "is_integer") fd8 := He5.fun_of F8
  have B8 : Binds K fd8 ["value"] [] := L2.Fun.binds U8 fun _ _ _ _ _ _ us hl => match us, hl with | [_], _ => rfl
  obtain ⟨fd9, F9⟩ := D.def_ 1 (d := d9) rfl
  have U9 : Fun K "is_count" "is_count" (top 9) (He.ga K "is_count") fd9 := He5.fun_of F9
  have B9 : Binds K fd9 ["value"] [] := L2.Fun.binds U9 fun _ _ _ _ _ _ us hl => match us, hl with | [_], _ => rfl
  obtain ⟨fd10, F10⟩ := D.def_ 2 (d := d10) rfl
  have U10 : Fun K "is_pair" "is_pair" (top 10) (He.ga K "is_pair") fd10 := He5.fun_of F10
  have B10 : Binds K fd10 ["value"] [] := L2.Fun.binds U10 fun _ _ _ _ _ _ us hl => match us, hl with | [_], _ => rfl
  obtain ⟨fd11, F11⟩ := D.def_ 3 (d := d11) rfl
  have U11 : Fun K "is_width" "is_width" (top 11) (He.ga K "is_width") fd11 := He5.fun_of F11
  have B11 : Binds K fd11 ["value"] [] := L2.Fun.binds U11 fun _ _ _ _ _ _ us hl => match us, hl with | [_], _ => rfl
  obtain ⟨fd12, F12⟩ := D.def_ 4 (d := d12) rfl
  have U12 : Fun K "is_name" "is_name" (top 12) (He.ga K "is_name") fd12 := He5.fun_of F12
  have B12 : Binds K fd12 ["value"] [] := L2.Fun.binds U12 fun _ _ _ _ _ _ us hl => match us, hl with | [_], _ => rfl
  obtain ⟨fd13, F13⟩ := D.def_ 5 (d := d13) rfl
  have U13 : Fun K "is_row" "is_row" (top 13) (He.ga K "is_row") fd13 := He5.fun_of F13
  have B13 : Binds K fd13 ["value"] [] := L2.Fun.binds U13 fun _ _ _ _ _ _ us hl => match us, hl with | [_], _ => rfl
  obtain ⟨fd14, F14⟩ := D.def_ 6 (d := d14) rfl
  have U14 : Fun K "is_ascending" "is_ascending" (top 14) (He.ga K "is_ascending") fd14 := He5.fun_of F14
  have B14 : Binds K fd14 ["values"] [] := L2.Fun.binds U14 fun _ _ _ _ _ _ us hl => match us, hl with | [_], _ => rfl
  obtain ⟨fd16, F16⟩ := D.def_ 7 (d := d16) rfl
  have U16 : Fun K "is_entry" "is_entry" (top 16) (He.ga K "is_entry") fd16 := He5.fun_of F16
  have B16 : Binds K fd16 ["value"] [] := L2.Fun.binds U16 fun _ _ _ _ _ _ us hl => match us, hl with | [_], _ => rfl
  obtain ⟨fd19, F19⟩ := D.def_ 8 (d := d19) rfl
  have U19 : Fun K "_is_triple" "_is_triple" (top 19) (He.ga K "_is_triple") fd19 := He5.fun_of F19
  have B19 : Binds K fd19 ["value"] [] := L2.Fun.binds U19 fun _ _ _ _ _ _ us hl => match us, hl with | [_], _ => rfl
  obtain ⟨fd20, F20⟩ := D.def_ 9 (d := d20) rfl
  have U20 : Fun K "_is_product" "_is_product" (top 20) (He.ga K "_is_product") fd20 := He5.fun_of F20
  have B20 : Binds K fd20 ["value"] [] := L2.Fun.binds U20 fun _ _ _ _ _ _ us hl => match us, hl with | [_], _ => rfl
  obtain ⟨fd21, F21⟩ := D.def_ 10 (d := d21) rfl
  have U21 : Fun K "_are_parts" "_are_parts" (top 21) (He.ga K "_are_parts") fd21 := He5.fun_of F21
  have B21 : Binds K fd21 ["value"] [] := L2.Fun.binds U21 fun _ _ _ _ _ _ us hl => match us, hl with | [_], _ => rfl
  obtain ⟨fd24, F24⟩ := D.def_ 11 (d := d24) rfl
  have U24 : Fun K "_times_of" "_times_of" (top 24) (He.ga K "_times_of") fd24 := He5.fun_of F24
  have B24 : Binds K fd24 ["product", "pair"] [] := L2.Fun.binds U24 fun _ _ _ _ _ _ us hl => match us, hl with | [_, _], _ => rfl
  obtain ⟨fd26, F26⟩ := D.def_ 12 (d := d26) rfl
  have U26 : Fun K "_told_triple" "_told_triple" (top 26) (He.ga K "_told_triple") fd26 := He5.fun_of F26
  have B26 : Binds K fd26 ["triple"] [] := L2.Fun.binds U26 fun _ _ _ _ _ _ us hl => match us, hl with | [_], _ => rfl
  obtain ⟨fd27, F27⟩ := D.def_ 13 (d := d27) rfl
  have U27 : Fun K "_told_product" "_told_product" (top 27) (He.ga K "_told_product") fd27 := He5.fun_of F27
  have B27 : Binds K fd27 ["product", "number"] [] := L2.Fun.binds U27 fun _ _ _ _ _ _ us hl => match us, hl with | [_, _], _ => rfl
  obtain ⟨fd30, F30⟩ := D.def_ 14 (d := d30) rfl
  have U30 : Fun K "_law_dice" "_law_dice" (top 30) (He.ga K "_law_dice") fd30 := He5.fun_of F30
  have B30 : Binds K fd30 ["_law_script", "_law_spot"] [] := L2.Fun.binds U30 fun _ _ _ _ _ _ us hl => match us, hl with | [_, _], _ => rfl
  obtain ⟨fd31, F31⟩ := D.def_ 15 (d := d31) rfl
  have U31 : Fun K "_law_roll" "_law_roll" (top 31) (He.ga K "_law_roll") fd31 := He5.fun_of F31
  have B31 : Binds K fd31 ["_law_dice_here", "_law_total"] [] := L2.Fun.binds U31 fun _ _ _ _ _ _ us hl => match us, hl with | [_, _], _ => rfl
  obtain ⟨fd32, F32⟩ := D.def_ 16 (d := d32) rfl
  have U32 : Fun K "_law_pick" "_law_pick" (top 32) (He.ga K "_law_pick") fd32 := He5.fun_of F32
  have B32 : Binds K fd32 ["_law_dice_here", "_law_items"] [] := L2.Fun.binds U32 fun _ _ _ _ _ _ us hl => match us, hl with | [_, _], _ => rfl
  obtain ⟨fd33, F33⟩ := D.def_ 17 (d := d33) rfl
  have U33 : Fun K "_law_mixed" "_law_mixed" (top 33) (He.ga K "_law_mixed") fd33 := He5.fun_of F33
  have B33 : Binds K fd33 ["_law_dice_here", "_law_items"] [] := L2.Fun.binds U33 fun _ _ _ _ _ _ us hl => match us, hl with | [_, _], _ => rfl
  obtain ⟨fd34, F34⟩ := D.def_ 18 (d := d34) rfl
  have U34 : Fun K "_law_product" "_law_product" (top 34) (He.ga K "_law_product") fd34 := He5.fun_of F34
  have B34 : Binds K fd34 ["_law_pairs"] [] := L2.Fun.binds U34 fun _ _ _ _ _ _ us hl => match us, hl with | [_], _ => rfl
  obtain ⟨fd35, F35⟩ := D.def_ 19 (d := d35) rfl
  have U35 : Fun K "_law_polynomial" "_law_polynomial" (top 35) (He.ga K "_law_polynomial") fd35 := He5.fun_of F35
  have B35 : Binds K fd35 ["_law_dice_here"] [] := L2.Fun.binds U35 fun _ _ _ _ _ _ us hl => match us, hl with | [_], _ => rfl
  obtain ⟨fd36, F36⟩ := D.def_ 20 (d := d36) rfl
  have U36 : Fun K "_law_text_of" "_law_text_of" (top 36) (He.ga K "_law_text_of") fd36 := He5.fun_of F36
  have B36 : Binds K fd36 ["_law_product_here", "_law_number"] [] := L2.Fun.binds U36 fun _ _ _ _ _ _ us hl => match us, hl with | [_, _], _ => rfl
  obtain ⟨fd37, F37⟩ := D.def_ 21 (d := d37) rfl
  have U37 : Fun K "_law_text" "_law_text" (top 37) (He.ga K "_law_text") fd37 := He5.fun_of F37
  have B37 : Binds K fd37 ["_law_parts"] [] := L2.Fun.binds U37 fun _ _ _ _ _ _ us hl => match us, hl with | [_], _ => rfl
  obtain ⟨fd38, F38⟩ := D.def_ 22 (d := d38) rfl
  have U38 : Fun K "_law_told_right" "_law_told_right" (top 38) (He.ga K "_law_told_right") fd38 := He5.fun_of F38
  have B38 : Binds K fd38 ["_law_whence", "_law_parts"] [] := L2.Fun.binds U38 fun _ _ _ _ _ _ us hl => match us, hl with | [_, _], _ => rfl
  obtain ⟨fd39, F39⟩ := D.def_ 23 (d := d39) rfl
  have U39 : Fun K "_law_right" "_law_right" (top 39) (He.ga K "_law_right") fd39 := He5.fun_of F39
  have B39 : Binds K fd39 ["_law_dice_here"] [] := L2.Fun.binds U39 fun _ _ _ _ _ _ us hl => match us, hl with | [_], _ => rfl
  obtain ⟨fd40, F40⟩ := D.def_ 24 (d := d40) rfl
  have U40 : Fun K "law" "law" (top 40) (He.ga K "law") fd40 := He5.fun_of F40
  have B40 : Binds K fd40 ["_law_script"] [] := L2.Fun.binds U40 fun _ _ _ _ _ _ us hl => match us, hl with | [_], _ => rfl
  obtain ⟨fdm0, Fm0⟩ := D.def_ 25 (d := dm0) rfl
  have Um0 : Fun K "__init__" "Whence.__init__" (sW 0) (He.ma K (caQ K) "__init__") fdm0 := He5.fun_of Fm0
  have Bm0 : Binds K fdm0 ["self", "parts"] [] := L2.Fun.binds Um0 fun _ _ _ _ _ _ us hl => match us, hl with | [_, _], _ => rfl
  obtain ⟨fdm12, Fm12⟩ := D.def_ 26 (d := dm12) rfl
  have Um12 : Fun K "__contains__" "Whence.__contains__" (sW 12) (He.ma K (caQ K) "__contains__") fdm12 := He5.fun_of Fm12
  have Bm12 : Binds K fdm12 ["self", "value"] [] := L2.Fun.binds Um12 fun _ _ _ _ _ _ us hl => match us, hl with | [_, _], _ => rfl
  obtain ⟨fdm13, Fm13⟩ := D.def_ 27 (d := dm13) rfl
  have Um13 : Fun K "__len__" "Whence.__len__" (sW 13) (He.ma K (caQ K) "__len__") fdm13 := He5.fun_of Fm13
  have Bm13 : Binds K fdm13 ["self"] [] := L2.Fun.binds Um13 fun _ _ _ _ _ _ us hl => match us, hl with | [_], _ => rfl
  obtain ⟨fdm14, Fm14⟩ := D.def_ 28 (d := dm14) rfl
  have Um14 : Fun K "__iter__" "Whence.__iter__" (sW 14) (He.ma K (caQ K) "__iter__") fdm14 := He5.fun_of Fm14
  have Bm14 : Binds K fdm14 ["self"] [] := L2.Fun.binds Um14 fun _ _ _ _ _ _ us hl => match us, hl with | [_], _ => rfl
  obtain ⟨fdm15, Fm15⟩ := D.def_ 29 (d := dm15) rfl
  have Um15 : Fun K "__eq__" "Whence.__eq__" (sW 15) (He.ma K (caQ K) "__eq__") fdm15 := He5.fun_of Fm15
  have Bm15 : Binds K fdm15 ["self", "other"] [] := L2.Fun.binds Um15 fun _ _ _ _ _ _ us hl => match us, hl with | [_, _], _ => rfl
  obtain ⟨fdm16, Fm16⟩ := D.def_ 30 (d := dm16) rfl
  have Um16 : Fun K "__str__" "Whence.__str__" (sW 16) (He.ma K (caQ K) "__str__") fdm16 := He5.fun_of Fm16
  have Bm16 : Binds K fdm16 ["self"] [] := L2.Fun.binds Um16 fun _ _ _ _ _ _ us hl => match us, hl with | [_], _ => rfl
  obtain ⟨fdg1, Fg1⟩ := cg.def_ 0 (d := dg1) rfl
  have Ug1 : Fun K "parts" "Whence.parts" (sW 1) (gG K "parts") fdg1 := He5.fun_of Fg1
  have Bg1 : Binds K fdg1 ["self"] [] := L2.Fun.binds Ug1 fun _ _ _ _ _ _ us hl => match us, hl with | [_], _ => rfl
  obtain ⟨fdg2, Fg2⟩ := cg.def_ 1 (d := dg2) rfl
  have Ug2 : Fun K "unknowns" "Whence.unknowns" (sW 2) (gG K "unknowns") fdg2 := He5.fun_of Fg2
  have Bg2 : Binds K fdg2 ["self"] [] := L2.Fun.binds Ug2 fun _ _ _ _ _ _ us hl => match us, hl with | [_], _ => rfl
  obtain ⟨fdg3, Fg3⟩ := cg.def_ 2 (d := dg3) rfl
  have Ug3 : Fun K "ways" "Whence.ways" (sW 3) (gG K "ways") fdg3 := He5.fun_of Fg3
  have Bg3 : Binds K fdg3 ["self"] [] := L2.Fun.binds Ug3 fun _ _ _ _ _ _ us hl => match us, hl with | [_], _ => rfl
  obtain ⟨fdg4, Fg4⟩ := cg.def_ 3 (d := dg4) rfl
  have Ug4 : Fun K "needed" "Whence.needed" (sW 4) (gG K "needed") fdg4 := He5.fun_of Fg4
  have Bg4 : Binds K fdg4 ["self"] [] := L2.Fun.binds Ug4 fun _ _ _ _ _ _ us hl => match us, hl with | [_], _ => rfl
  have t1 : T1 K mg := ⟨(fr 26 rfl), (fr 27 rfl), (fr 28 rfl), (nt 50 rfl)⟩
  have t2 : T2 K mg _ _ _ := ⟨t1, (gl 1 rfl), F8.kp, (gl 2 rfl), F9.kp, (gl 4 rfl), F11.kp, (nt 48 rfl), (nt 47 rfl), (fr 29 rfl), (fr 30 rfl), (fr 31 rfl), (fr 32 rfl), (fr 33 rfl), (fr 34 rfl)⟩
  have t3 : T3 K mg _ _ _ _ := ⟨t2, (gl 5 rfl), F12.kp⟩
  have tz : TZ K mg := ⟨(fr 43 rfl), (fr 33 rfl)⟩
  have tl : TL K mg _ _ := ⟨(fr 27 rfl), (fr 35 rfl), (fr 36 rfl), (fr 29 rfl), (gl 16 rfl), F31.kp, (gl 17 rfl), F32.kp⟩
  have tm : TM K mg _ _ := ⟨tl, (fr 38 rfl), (fr 39 rfl)⟩
  have ts : TS K mg := ⟨(fr 42 rfl), (fr 31 rfl), (fr 40 rfl), (fr 38 rfl), (fr 46 rfl), (fr 33 rfl), (fr 29 rfl), (fr 30 rfl), (fr 45 rfl), (fr 26 rfl)⟩
  have gQ : mg "Whence" = some (.ref (caQ K)) := (gl 0 rfl)
  have twh : TWh K (caQ K) := ⟨He.cls_ok (D.fact 51 (f := .cls "Whence") rfl), (na 52 rfl)⟩
  have tis : TIs K (caQ K) := ⟨of_decide_eq_true a1, of_decide_eq_true a2, of_decide_eq_true a3, of_decide_eq_true a4, of_decide_eq_true a5, of_decide_eq_true a6, of_decide_eq_true a7, of_decide_eq_true a8⟩
  have mk : Mk K (caQ K) (He.ma K (caQ K) "__init__") := He.mkr_ok (D.fact 59 (f := .mkr "Whence") rfl)
  refine ⟨(gl 25 rfl), fd40, fun s u => ?_, fun base KB GB => ?_⟩
  · obtain ⟨oc, od, kV, doc, pm, an, cdv, ct, osl, e, _, _⟩ := U40.ex
    subst e
    exact .of_eq rfl
  have G8 := ok_isInt (P := P) (w := w) (mg := mg) (base := base) U8 t1
  have G9 := ok_isCnt (P := P) (w := w) (mg := mg) (base := base) U9 t2 G8 B8
  have G11 := ok_isWid (P := P) (w := w) (mg := mg) (base := base) U11 t2 G8 B8
  have G12 := ok_isNam (P := P) (w := w) (mg := mg) (base := base) U12 t2
  have G13 := ok_isRow (P := P) (w := w) (mg := mg) (base := base) U13 t3 G11 B11 G9 B9
  have G14 := ok_isAs (P := P) (w := w) (mg := mg) (base := base) U14 tz
  have G10 := ok_isPa (P := P) (w := w) (mg := mg) (base := base) U10 t3
  have G16 := ok_isEn (P := P) (w := w) (mg := mg) (base := base) U16 t3 ⟨(gl 3 rfl), F10.kp⟩ G10 B10 G12 B12 ⟨(gl 6 rfl), F13.kp⟩ G13 B13
  have G19 := ok_isTr (P := P) (w := w) (mg := mg) (base := base) U19 t3 (nt 49 rfl) ⟨(gl 8 rfl), F16.kp⟩ G16 B16 G8 B8
  have G20 := ok_isPd (P := P) (w := w) (mg := mg) (base := base) U20 t3 ⟨(gl 9 rfl), F19.kp⟩ G19 B19 ⟨(gl 7 rfl), F14.kp⟩ G14 B14
  have G21 := ok_areP (P := P) (w := w) (mg := mg) (base := base) U21 t3 ⟨(gl 10 rfl), F20.kp⟩ G20 B20 G9 B9
  have Gm0 := ok_init (P := P) (w := w) (mg := mg) (base := base) Um0 twh ts ⟨(gl 11 rfl), F21.kp⟩ G21 B21
  have G24 := ok_times (P := P) (w := w) (mg := mg) (base := base) U24 ts
  have G26 := ok_toldT (P := P) (w := w) (mg := mg) (base := base) U26 ts
  have G27 := ok_toldP (P := P) (w := w) (mg := mg) (base := base) U27 ts ⟨(gl 13 rfl), F26.kp⟩ G26 B26
  have Gg1 := ok_parts (P := P) (w := w) (mg := mg) (base := base) Ug1 twh
  have Gg3 := ok_ways (P := P) (w := w) (mg := mg) (base := base) Ug3 twh ts
  have Gg2 := ok_unk (P := P) (w := w) (mg := mg) (base := base) Ug2 twh ts
  have Gg4 := ok_need (P := P) (w := w) (mg := mg) (base := base) Ug4 twh ts ⟨(gl 12 rfl), F24.kp⟩ G24 B24
  have Gm12 := ok_cont (P := P) (w := w) (mg := mg) (base := base) Um12 twh ⟨(gl 10 rfl), F20.kp⟩ G20 B20
  have Gm14 := ok_iter (P := P) (w := w) (mg := mg) (base := base) Um14 twh ts Bm14
  have Gm13 := ok_lenD (P := P) (w := w) (mg := mg) (base := base) Um13 twh ts
  have Gm15 := ok_eq (P := P) (w := w) (mg := mg) (base := base) Um15 twh tis ts gQ
  have Gm16 := ok_wstr (P := P) (w := w) (mg := mg) (base := base) Um16 twh ts ⟨(gl 14 rfl), F27.kp⟩ G27 B27
  have Zq : QW P w K mg base (caQ K) := {
    T := twh
    I := tis
    par := ⟨_, _, _, pr 0 rfl, Gg1, Bg1⟩
    unk := ⟨_, _, _, pr 1 rfl, Gg2, Bg2⟩
    way := ⟨_, _, _, pr 2 rfl, Gg3, Bg3⟩
    need := ⟨_, _, _, pr 3 rfl, Gg4, Bg4⟩
    con := ⟨_, (mt 54 rfl).at_, (mt 54 rfl).fn, (Gm12.raw Bm12 .nil).imp fun vs H Q E h => by rw [List.append_nil]; exact h⟩
    len := ⟨_, (mt 55 rfl).at_, (mt 55 rfl).fn, (Gm13.raw Bm13 .nil).imp fun vs H Q E h => by rw [List.append_nil]; exact h⟩
    str := ⟨_, (mt 58 rfl).at_, (mt 58 rfl).fn, (Gm16.raw Bm16 .nil).imp fun vs H Q E h => by rw [List.append_nil]; exact h⟩
    eq := ⟨_, (mt 57 rfl).at_, (mt 57 rfl).fn, (Gm15.raw Bm15 .nil).imp fun vs H Q E h => by rw [List.append_nil]; exact h⟩
    itr := ⟨_, (mt 56 rfl).at_, (mt 56 rfl).fn, Gm14⟩ }
  have Z : QE P w K mg base (caQ K) := ⟨Zq, of_decide_eq_true b1, of_decide_eq_true a4, b2, b3, b4⟩
  have G30 := ok_dice (P := P) (w := w) (mg := mg) (base := base) U30 tl
  have G31 := ok_roll (P := P) (w := w) (mg := mg) (base := base) U31 tl
  have G32 := ok_pick (P := P) (w := w) (mg := mg) (base := base) U32 tl G31 B31
  have G33 := ok_mixed (P := P) (w := w) (mg := mg) (base := base) U33 tm G31 B31
  have G34 := ok_prod (P := P) (w := w) (mg := mg) (base := base) U34 ts
  have G35 := ok_poly (P := P) (w := w) (mg := mg) (base := base) U35 tm G31 B31 G32 B32 ⟨(gl 19 rfl), F34.kp⟩ G34 B34
  have G36 := ok_textOf (P := P) (w := w) (mg := mg) (base := base) U36 ts
  have G37 := ok_text (P := P) (w := w) (mg := mg) (base := base) U37 ts ⟨(gl 21 rfl), F36.kp⟩ G36 B36
  have G38 := ok_toldR (P := P) (w := w) (mg := mg) (base := base) U38 Zq ts ⟨(gl 22 rfl), F37.kp⟩ G37 B37
  have lr : LR P w K mg base (caQ K) := ⟨Z, ts, (fr 32 rfl), gQ, ⟨_, _, ⟨(gl 20 rfl), F35.kp⟩, G35, B35⟩, ⟨_, _, ⟨(gl 18 rfl), F33.kp⟩, G33, B33⟩, ⟨_, _, ⟨(gl 23 rfl), F38.kp⟩, G38, B38⟩, ⟨_, _, mk, Gm0, Bm0⟩⟩
  have G39 := ok_right (P := P) (w := w) (mg := mg) (base := base) U39 lr
  have lw : LW P w K mg base (caQ K) := ⟨lr, (fr 39 rfl), (fr 36 rfl), (fr 37 rfl), ⟨_, _, ⟨(gl 15 rfl), F30.kp⟩, G30, B30⟩, ⟨_, _, ⟨(gl 24 rfl), F39.kp⟩, G39, B39⟩⟩
  exact .of (ok_law (P := P) (w := w) (mg := mg) (base := base) U40 lw)
theorem walk_ofG {l : PySem.W.OpenLaw} {n k : Nat} {q : Program} {loose : List Str} {XP : (Str → Option Value) → Heap → Prop} {YP : World → Heap → Prop} {d : DefRec} {CX : CXT} {x : Str}
    (hn : l.most = some n) (hn2 : n ≤ sizeLine) (hdf : d.params.defaults = []) (hr : Room k callerA)
    (F : ∀ (w : World) (mg : Str → Option Value) (fa : Addr) (h : Heap), YP w h → h.Ns mainGlobals mg → mg d.name = some (.ref fa) → ∃ (K : PySem.W.Frag) (fd : FuncData) (cs : List (Addr × Addr)) (sp : Sp), K.In h ∧ (∀ p ∈ cs, h.get? p.2 = some { cls := .none, data := .fields #[] }) ∧ (∀ p ∈ cs, K.lookup p.2 = none) ∧
      (∀ p ∈ cs, PySem.W.CodeHd h p.1 p.2) ∧ (∀ (s : Shared) (u : Value), BindsTo s fd ⟨[u], []⟩ [(x, u)]) ∧ (∀ (H : Hp) (a : Addr) (ns : List Int), (∀ p ∈ cs, H p.2 = some (.tbl #[])) → SqL K H a (ns.map V.int) → sp [.ref a] H (fun v _ => v = .bl true) fun _ _ _ => False) ∧
      ∀ base : Heap, K.In base → base.Ns mainGlobals mg → (∀ p ∈ cs, LamX.TabB base mg p.1 p.2) → FnG l.prog w K mg base CX k fa fd [x] sp)
    (hCX : ∀ (H : Hp) (s : Shared) (e : Value) (s' : Shared), CX [] H s (fun _ _ _ => False) e s' → False) : PySem.W.WalkO q loose XP YP l.row.toRowW d [] (fun f vs => PySem.call f vs) := by
  refine Att.attach_callB hn hdf fun w s0 s1 mg mb fa o pm cd doc a vs ns G Y ho hd hcd hmg hobj hints hlen _ hg => ?_
  obtain ⟨K, fd, cs, sp, KX, hT, nT, C, hb, hsp, hF⟩ := F w mg fa _ Y G.T.g hmg
  have back : ∀ q ∈ cs.map (·.2), ∃ p ∈ cs, p.2 = q := fun q hq => List.mem_map.mp hq
  have Fo : Fore K mg mb (cs.map (·.2)) a vs ns s1 := ⟨KX, G.T.g, G.T.b, G.T.builtins, G.T.nolimit, hg, fun q hq => by
    obtain ⟨p, hp, e⟩ := back q hq
    rw [← e]
    exact hT p hp, fun q hq => by
    obtain ⟨p, hp, e⟩ := back q hq
    rw [← e]
    exact nT p hp, G.T.bmain, hobj, hints, Nat.le_trans hlen hn2⟩
  exact law_callG (cs := cs) Fo (fun p hp => ⟨List.mem_map.mpr ⟨p, hp, rfl⟩, C p hp⟩) (fun q hq => by
    obtain ⟨p, hp, e⟩ := back q hq
    rw [← e]
    exact ⟨p.1, C p hp⟩) hr hF hb (fun H hH hS => hsp H a ns (fun p hp => hH _ (List.mem_map.mpr ⟨p, hp, rfl⟩)) hS) fun H e s' => hCX H s1 e s'
end K0

/-! ## U3 -/
set_option maxRecDepth 100000
set_option maxHeartbeats 0
open PySem PySem.W PySem.Calls PyProof.Rows
theorem PySem.Challenge.cw_joinhouse_k28_polynomials_told_holds : PySem.Challenge.rw_joinhouse_k28_polynomials_told.Holds := by
  w_on; o_law
  refine HandSHeadRun.head_imp (r := OpenLaw.row PySem.Challenge.rw_joinhouse_k28_polynomials_told) (q := view (OpenLaw.row PySem.Challenge.rw_joinhouse_k28_polynomials_told).prog [40]) (H := K0.hkY) (ob := K0.ob0) (M := 60000) (loose := K0.loose0)
    (d := HandSHeadRun.topDef (OpenLaw.row PySem.Challenge.rw_joinhouse_k28_polynomials_told).prog 40) (kwd := []) K0.ob0_eq K0.run0 (by kernel_rfl) (by kernel_rfl) (by kernel_rfl) (by rfl) (by first | assumption | decide +kernel) (by decide +kernel) ⟨rfl, rfl, rfl, rfl, rfl, by decide +kernel⟩ ?hw ?hc
  case hw => w_witness2
  case hc =>
    refine K0.walk_ofG (l := PySem.Challenge.rw_joinhouse_k28_polynomials_told) (n := 63) (k := 12) (x := "_law_script") (CX := L2.CX0) rfl (by decide) (by kernel_rfl) ⟨rfl, by decide, by decide⟩ ?F (fun _ _ _ _ z => z)
    intro w mg fa h Y G hmg0
    obtain ⟨K, KX, c, cg⟩ := Y
    have hmg : mg ("law" : PySem.Str) = some (.ref fa) := by
      have e : (HandSHeadRun.topDef (OpenLaw.row PySem.Challenge.rw_joinhouse_k28_polynomials_told).prog 40).name = ("law" : PySem.Str) := by kernel_rfl
      rw [← e]
      exact hmg0
    obtain ⟨gL, fd, hb, hF⟩ := K0.facts (P := (PySem.Challenge.rw_joinhouse_k28_polynomials_told).prog) (w := w) KX G c cg
    have ea : fa = He.ga K "law" := by
      rw [hmg] at gL
      cases gL
      rfl
    subst ea
    exact ⟨K, fd, [], K0.spLaw K, KX, (fun p hp => by cases hp), (fun p hp => by cases hp), (fun p hp => by cases hp), hb, fun H a ns _ hS => ⟨a, ns, rfl, hS, fun _ => rfl⟩, fun base KB GB _ => hF base KB GB⟩
